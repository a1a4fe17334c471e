/-
  What ShapeOrder answers: true, whatever it is asked.
-/
import Derived.Test.YtemkloomigijjaaIs
namespace Go.Proofs.Ytemkloomigijjaa
open Go.RowKit

set_option maxHeartbeats 1000000 in
set_option maxRecDepth 100000 in
theorem order_none (c h x i k : Int) (w : World) (hn : sizeI c h x = 0) :
    Calls Try.prog 9 #[.agg #[.int .i64 c, .int .i64 h, .int .i64 x], .int .u8 i, .int .u8 k] w fun e w' => e = .returned (.bool true) ∧ Below w.heap.size w w' := by
  have HN := Lib.hid hn; clear hn
  go_enter Try.func9, Try.ntmps9
  go_wp2_with fail
  refine (head_any _).mono ?_
  rintro e w1 ⟨rfl, hb1⟩
  have HB1 : Hid (Below w.heap.size w w1) := chain (by repeat first | exact Below.refl _ _ | refine chain_alloc ?_ _) hb1
  have X1_0 : Box w1 (w.heap.size) c h x := Box.below (by repeat first | exact Box.new _ _ _ _ | refine Box.alloc ?_ _) hb1
  clear hb1
  obtain ⟨l1_0, c1_0, d1_0, f1_0⟩ := id X1_0
  go_wp2_with fail
  refine (size_is c h x 0 HN.out _).mono ?_
  rintro e w2 ⟨rfl, hb2⟩
  have HB2 : Hid (Below w.heap.size w w2) := chain (by repeat first | exact HB1.out | exact Below.refl _ _ | refine chain_alloc ?_ _) hb2
  have X2_0 : Box w2 (w.heap.size) c h x := Box.below (by repeat first | exact X1_0 | exact Box.new _ _ _ _ | refine Box.alloc ?_ _) hb2
  clear hb2 l1_0 c1_0 d1_0 f1_0 HB1 X1_0
  obtain ⟨l2_0, c2_0, d2_0, f2_0⟩ := id X2_0
  go_wp2_with fail
  go_ret
  exact ⟨rfl, by repeat first | exact HB2.out | refine chain_alloc ?_ _⟩

set_option maxHeartbeats 1000000 in
set_option maxRecDepth 100000 in
theorem order_c1 (c h x i k n C Y X D Z V : Int) (w : World) (i0 : 0 ≤ i ∧ i ≤ 255) (k0 : 0 ≤ k ∧ k ≤ 255) (n1 : 1 ≤ n) (n2 : n ≤ 128) (hn : sizeI c h x = n)
    (hi : chI c h x (i % n) = C ∧ rowI c h x (i % n) = Y ∧ colI c h x (i % n) = X ∧ hasB c h x (i % n) = true) (hk : chI c h x (k % n) = D ∧ rowI c h x (k % n) = Z ∧ colI c h x (k % n) = V ∧ hasB c h x (k % n) = true)
     (g : C < D) (l : i % n < k % n) :
    Calls Try.prog 9 #[.agg #[.int .i64 c, .int .i64 h, .int .i64 x], .int .u8 i, .int .u8 k] w fun e w' => e = .returned (.bool true) ∧ Below w.heap.size w w' := by
  obtain ⟨i1, i2⟩ := i0
  obtain ⟨k1, k2⟩ := k0
  have f0 : decide (C < D) = true := by simp; omega
  have f9 : decide (i % n < k % n) = true := by simp; omega
  have n0 : ¬ n = 0 := by omega
  have n3 : decide (n < 1) = false := by simp; omega
  have HN := Lib.hid hn; clear hn
  have HI := Lib.hid hi; clear hi
  have HK := Lib.hid hk; clear hk
  go_enter Try.func9, Try.ntmps9
  go_wp2_with fail
  refine (head_any _).mono ?_
  rintro e w1 ⟨rfl, hb1⟩
  have HB1 : Hid (Below w.heap.size w w1) := chain (by repeat first | exact Below.refl _ _ | refine chain_alloc ?_ _) hb1
  have X1_0 : Box w1 (w.heap.size) c h x := Box.below (by repeat first | exact Box.new _ _ _ _ | refine Box.alloc ?_ _) hb1
  clear hb1
  obtain ⟨l1_0, c1_0, d1_0, f1_0⟩ := id X1_0
  go_wp2_with fail
  refine (size_is c h x n HN.out _).mono ?_
  rintro e w2 ⟨rfl, hb2⟩
  have HB2 : Hid (Below w.heap.size w w2) := chain (by repeat first | exact HB1.out | exact Below.refl _ _ | refine chain_alloc ?_ _) hb2
  have X2_0 : Box w2 (w.heap.size) c h x := Box.below (by repeat first | exact X1_0 | exact Box.new _ _ _ _ | refine Box.alloc ?_ _) hb2
  clear hb2 l1_0 c1_0 d1_0 f1_0 HB1 X1_0
  obtain ⟨l2_0, c2_0, d2_0, f2_0⟩ := id X2_0
  go_wp2_with fail
  refine (of_is c h x (i % n) C Y X true HI.out _).mono ?_
  rintro e w3 ⟨rfl, hb3⟩
  have HB3 : Hid (Below w.heap.size w w3) := chain (by repeat first | exact HB2.out | exact Below.refl _ _ | refine chain_alloc ?_ _) hb3
  have X3_0 : Box w3 (w.heap.size) c h x := Box.below (by repeat first | exact X2_0 | exact Box.new _ _ _ _ | refine Box.alloc ?_ _) hb3
  clear hb3 l2_0 c2_0 d2_0 f2_0 HB2 X2_0
  obtain ⟨l3_0, c3_0, d3_0, f3_0⟩ := id X3_0
  go_wp2_with fail
  refine (of_is c h x (k % n) D Z V true HK.out _).mono ?_
  rintro e w4 ⟨rfl, hb4⟩
  have HB4 : Hid (Below w.heap.size w w4) := chain (by repeat first | exact HB3.out | exact Below.refl _ _ | refine chain_alloc ?_ _) hb4
  have X4_0 : Box w4 (w.heap.size) c h x := Box.below (by repeat first | exact X3_0 | exact Box.new _ _ _ _ | refine Box.alloc ?_ _) hb4
  clear hb4 l3_0 c3_0 d3_0 f3_0 HB3 X3_0
  obtain ⟨l4_0, c4_0, d4_0, f4_0⟩ := id X4_0
  go_wp2_with fail
  go_ret
  exact ⟨rfl, by repeat first | exact HB4.out | refine chain_alloc ?_ _⟩

set_option maxHeartbeats 1000000 in
set_option maxRecDepth 100000 in
theorem order_c2 (c h x i k n C Y X D Z V : Int) (w : World) (i0 : 0 ≤ i ∧ i ≤ 255) (k0 : 0 ≤ k ∧ k ≤ 255) (n1 : 1 ≤ n) (n2 : n ≤ 128) (hn : sizeI c h x = n)
    (hi : chI c h x (i % n) = C ∧ rowI c h x (i % n) = Y ∧ colI c h x (i % n) = X ∧ hasB c h x (i % n) = true) (hk : chI c h x (k % n) = D ∧ rowI c h x (k % n) = Z ∧ colI c h x (k % n) = V ∧ hasB c h x (k % n) = true)
     (g : D < C) (l : k % n ≤ i % n) :
    Calls Try.prog 9 #[.agg #[.int .i64 c, .int .i64 h, .int .i64 x], .int .u8 i, .int .u8 k] w fun e w' => e = .returned (.bool true) ∧ Below w.heap.size w w' := by
  obtain ⟨i1, i2⟩ := i0
  obtain ⟨k1, k2⟩ := k0
  have f0 : decide (C < D) = false := by simp; omega
  have f1 : (C == D) = false := by simp; omega
  have f9 : decide (i % n < k % n) = false := by simp; omega
  have n0 : ¬ n = 0 := by omega
  have n3 : decide (n < 1) = false := by simp; omega
  have HN := Lib.hid hn; clear hn
  have HI := Lib.hid hi; clear hi
  have HK := Lib.hid hk; clear hk
  go_enter Try.func9, Try.ntmps9
  go_wp2_with fail
  refine (head_any _).mono ?_
  rintro e w1 ⟨rfl, hb1⟩
  have HB1 : Hid (Below w.heap.size w w1) := chain (by repeat first | exact Below.refl _ _ | refine chain_alloc ?_ _) hb1
  have X1_0 : Box w1 (w.heap.size) c h x := Box.below (by repeat first | exact Box.new _ _ _ _ | refine Box.alloc ?_ _) hb1
  clear hb1
  obtain ⟨l1_0, c1_0, d1_0, f1_0⟩ := id X1_0
  go_wp2_with fail
  refine (size_is c h x n HN.out _).mono ?_
  rintro e w2 ⟨rfl, hb2⟩
  have HB2 : Hid (Below w.heap.size w w2) := chain (by repeat first | exact HB1.out | exact Below.refl _ _ | refine chain_alloc ?_ _) hb2
  have X2_0 : Box w2 (w.heap.size) c h x := Box.below (by repeat first | exact X1_0 | exact Box.new _ _ _ _ | refine Box.alloc ?_ _) hb2
  clear hb2 l1_0 c1_0 d1_0 f1_0 HB1 X1_0
  obtain ⟨l2_0, c2_0, d2_0, f2_0⟩ := id X2_0
  go_wp2_with fail
  refine (of_is c h x (i % n) C Y X true HI.out _).mono ?_
  rintro e w3 ⟨rfl, hb3⟩
  have HB3 : Hid (Below w.heap.size w w3) := chain (by repeat first | exact HB2.out | exact Below.refl _ _ | refine chain_alloc ?_ _) hb3
  have X3_0 : Box w3 (w.heap.size) c h x := Box.below (by repeat first | exact X2_0 | exact Box.new _ _ _ _ | refine Box.alloc ?_ _) hb3
  clear hb3 l2_0 c2_0 d2_0 f2_0 HB2 X2_0
  obtain ⟨l3_0, c3_0, d3_0, f3_0⟩ := id X3_0
  go_wp2_with fail
  refine (of_is c h x (k % n) D Z V true HK.out _).mono ?_
  rintro e w4 ⟨rfl, hb4⟩
  have HB4 : Hid (Below w.heap.size w w4) := chain (by repeat first | exact HB3.out | exact Below.refl _ _ | refine chain_alloc ?_ _) hb4
  have X4_0 : Box w4 (w.heap.size) c h x := Box.below (by repeat first | exact X3_0 | exact Box.new _ _ _ _ | refine Box.alloc ?_ _) hb4
  clear hb4 l3_0 c3_0 d3_0 f3_0 HB3 X3_0
  obtain ⟨l4_0, c4_0, d4_0, f4_0⟩ := id X4_0
  go_wp2_with fail
  go_ret
  exact ⟨rfl, by repeat first | exact HB4.out | refine chain_alloc ?_ _⟩

set_option maxHeartbeats 1000000 in
set_option maxRecDepth 100000 in
theorem order_y1 (c h x i k n C Y X D Z V : Int) (w : World) (i0 : 0 ≤ i ∧ i ≤ 255) (k0 : 0 ≤ k ∧ k ≤ 255) (n1 : 1 ≤ n) (n2 : n ≤ 128) (hn : sizeI c h x = n)
    (hi : chI c h x (i % n) = C ∧ rowI c h x (i % n) = Y ∧ colI c h x (i % n) = X ∧ hasB c h x (i % n) = true) (hk : chI c h x (k % n) = D ∧ rowI c h x (k % n) = Z ∧ colI c h x (k % n) = V ∧ hasB c h x (k % n) = true)
    (e0 : C = D) (g : Y < Z) (l : i % n < k % n) :
    Calls Try.prog 9 #[.agg #[.int .i64 c, .int .i64 h, .int .i64 x], .int .u8 i, .int .u8 k] w fun e w' => e = .returned (.bool true) ∧ Below w.heap.size w w' := by
  obtain ⟨i1, i2⟩ := i0
  obtain ⟨k1, k2⟩ := k0
  subst e0
  have f0 : decide (Y < Z) = true := by simp; omega
  have f9 : decide (i % n < k % n) = true := by simp; omega
  have n0 : ¬ n = 0 := by omega
  have n3 : decide (n < 1) = false := by simp; omega
  have HN := Lib.hid hn; clear hn
  have HI := Lib.hid hi; clear hi
  have HK := Lib.hid hk; clear hk
  go_enter Try.func9, Try.ntmps9
  go_wp2_with fail
  refine (head_any _).mono ?_
  rintro e w1 ⟨rfl, hb1⟩
  have HB1 : Hid (Below w.heap.size w w1) := chain (by repeat first | exact Below.refl _ _ | refine chain_alloc ?_ _) hb1
  have X1_0 : Box w1 (w.heap.size) c h x := Box.below (by repeat first | exact Box.new _ _ _ _ | refine Box.alloc ?_ _) hb1
  clear hb1
  obtain ⟨l1_0, c1_0, d1_0, f1_0⟩ := id X1_0
  go_wp2_with fail
  refine (size_is c h x n HN.out _).mono ?_
  rintro e w2 ⟨rfl, hb2⟩
  have HB2 : Hid (Below w.heap.size w w2) := chain (by repeat first | exact HB1.out | exact Below.refl _ _ | refine chain_alloc ?_ _) hb2
  have X2_0 : Box w2 (w.heap.size) c h x := Box.below (by repeat first | exact X1_0 | exact Box.new _ _ _ _ | refine Box.alloc ?_ _) hb2
  clear hb2 l1_0 c1_0 d1_0 f1_0 HB1 X1_0
  obtain ⟨l2_0, c2_0, d2_0, f2_0⟩ := id X2_0
  go_wp2_with fail
  refine (of_is c h x (i % n) C Y X true HI.out _).mono ?_
  rintro e w3 ⟨rfl, hb3⟩
  have HB3 : Hid (Below w.heap.size w w3) := chain (by repeat first | exact HB2.out | exact Below.refl _ _ | refine chain_alloc ?_ _) hb3
  have X3_0 : Box w3 (w.heap.size) c h x := Box.below (by repeat first | exact X2_0 | exact Box.new _ _ _ _ | refine Box.alloc ?_ _) hb3
  clear hb3 l2_0 c2_0 d2_0 f2_0 HB2 X2_0
  obtain ⟨l3_0, c3_0, d3_0, f3_0⟩ := id X3_0
  go_wp2_with fail
  refine (of_is c h x (k % n) C Z V true HK.out _).mono ?_
  rintro e w4 ⟨rfl, hb4⟩
  have HB4 : Hid (Below w.heap.size w w4) := chain (by repeat first | exact HB3.out | exact Below.refl _ _ | refine chain_alloc ?_ _) hb4
  have X4_0 : Box w4 (w.heap.size) c h x := Box.below (by repeat first | exact X3_0 | exact Box.new _ _ _ _ | refine Box.alloc ?_ _) hb4
  clear hb4 l3_0 c3_0 d3_0 f3_0 HB3 X3_0
  obtain ⟨l4_0, c4_0, d4_0, f4_0⟩ := id X4_0
  go_wp2_with fail
  go_ret
  exact ⟨rfl, by repeat first | exact HB4.out | refine chain_alloc ?_ _⟩

set_option maxHeartbeats 1000000 in
set_option maxRecDepth 100000 in
theorem order_y2 (c h x i k n C Y X D Z V : Int) (w : World) (i0 : 0 ≤ i ∧ i ≤ 255) (k0 : 0 ≤ k ∧ k ≤ 255) (n1 : 1 ≤ n) (n2 : n ≤ 128) (hn : sizeI c h x = n)
    (hi : chI c h x (i % n) = C ∧ rowI c h x (i % n) = Y ∧ colI c h x (i % n) = X ∧ hasB c h x (i % n) = true) (hk : chI c h x (k % n) = D ∧ rowI c h x (k % n) = Z ∧ colI c h x (k % n) = V ∧ hasB c h x (k % n) = true)
    (e0 : C = D) (g : Z < Y) (l : k % n ≤ i % n) :
    Calls Try.prog 9 #[.agg #[.int .i64 c, .int .i64 h, .int .i64 x], .int .u8 i, .int .u8 k] w fun e w' => e = .returned (.bool true) ∧ Below w.heap.size w w' := by
  obtain ⟨i1, i2⟩ := i0
  obtain ⟨k1, k2⟩ := k0
  subst e0
  have f0 : decide (Y < Z) = false := by simp; omega
  have f1 : (Y == Z) = false := by simp; omega
  have f9 : decide (i % n < k % n) = false := by simp; omega
  have n0 : ¬ n = 0 := by omega
  have n3 : decide (n < 1) = false := by simp; omega
  have HN := Lib.hid hn; clear hn
  have HI := Lib.hid hi; clear hi
  have HK := Lib.hid hk; clear hk
  go_enter Try.func9, Try.ntmps9
  go_wp2_with fail
  refine (head_any _).mono ?_
  rintro e w1 ⟨rfl, hb1⟩
  have HB1 : Hid (Below w.heap.size w w1) := chain (by repeat first | exact Below.refl _ _ | refine chain_alloc ?_ _) hb1
  have X1_0 : Box w1 (w.heap.size) c h x := Box.below (by repeat first | exact Box.new _ _ _ _ | refine Box.alloc ?_ _) hb1
  clear hb1
  obtain ⟨l1_0, c1_0, d1_0, f1_0⟩ := id X1_0
  go_wp2_with fail
  refine (size_is c h x n HN.out _).mono ?_
  rintro e w2 ⟨rfl, hb2⟩
  have HB2 : Hid (Below w.heap.size w w2) := chain (by repeat first | exact HB1.out | exact Below.refl _ _ | refine chain_alloc ?_ _) hb2
  have X2_0 : Box w2 (w.heap.size) c h x := Box.below (by repeat first | exact X1_0 | exact Box.new _ _ _ _ | refine Box.alloc ?_ _) hb2
  clear hb2 l1_0 c1_0 d1_0 f1_0 HB1 X1_0
  obtain ⟨l2_0, c2_0, d2_0, f2_0⟩ := id X2_0
  go_wp2_with fail
  refine (of_is c h x (i % n) C Y X true HI.out _).mono ?_
  rintro e w3 ⟨rfl, hb3⟩
  have HB3 : Hid (Below w.heap.size w w3) := chain (by repeat first | exact HB2.out | exact Below.refl _ _ | refine chain_alloc ?_ _) hb3
  have X3_0 : Box w3 (w.heap.size) c h x := Box.below (by repeat first | exact X2_0 | exact Box.new _ _ _ _ | refine Box.alloc ?_ _) hb3
  clear hb3 l2_0 c2_0 d2_0 f2_0 HB2 X2_0
  obtain ⟨l3_0, c3_0, d3_0, f3_0⟩ := id X3_0
  go_wp2_with fail
  refine (of_is c h x (k % n) C Z V true HK.out _).mono ?_
  rintro e w4 ⟨rfl, hb4⟩
  have HB4 : Hid (Below w.heap.size w w4) := chain (by repeat first | exact HB3.out | exact Below.refl _ _ | refine chain_alloc ?_ _) hb4
  have X4_0 : Box w4 (w.heap.size) c h x := Box.below (by repeat first | exact X3_0 | exact Box.new _ _ _ _ | refine Box.alloc ?_ _) hb4
  clear hb4 l3_0 c3_0 d3_0 f3_0 HB3 X3_0
  obtain ⟨l4_0, c4_0, d4_0, f4_0⟩ := id X4_0
  go_wp2_with fail
  go_ret
  exact ⟨rfl, by repeat first | exact HB4.out | refine chain_alloc ?_ _⟩

set_option maxHeartbeats 1000000 in
set_option maxRecDepth 100000 in
theorem order_x1 (c h x i k n C Y X D Z V : Int) (w : World) (i0 : 0 ≤ i ∧ i ≤ 255) (k0 : 0 ≤ k ∧ k ≤ 255) (n1 : 1 ≤ n) (n2 : n ≤ 128) (hn : sizeI c h x = n)
    (hi : chI c h x (i % n) = C ∧ rowI c h x (i % n) = Y ∧ colI c h x (i % n) = X ∧ hasB c h x (i % n) = true) (hk : chI c h x (k % n) = D ∧ rowI c h x (k % n) = Z ∧ colI c h x (k % n) = V ∧ hasB c h x (k % n) = true)
    (e0 : C = D) (e1 : Y = Z) (g : X < V) (l : i % n < k % n) :
    Calls Try.prog 9 #[.agg #[.int .i64 c, .int .i64 h, .int .i64 x], .int .u8 i, .int .u8 k] w fun e w' => e = .returned (.bool true) ∧ Below w.heap.size w w' := by
  obtain ⟨i1, i2⟩ := i0
  obtain ⟨k1, k2⟩ := k0
  subst e0
  subst e1
  have f0 : decide (X < V) = true := by simp; omega
  have f9 : decide (i % n < k % n) = true := by simp; omega
  have n0 : ¬ n = 0 := by omega
  have n3 : decide (n < 1) = false := by simp; omega
  have HN := Lib.hid hn; clear hn
  have HI := Lib.hid hi; clear hi
  have HK := Lib.hid hk; clear hk
  go_enter Try.func9, Try.ntmps9
  go_wp2_with fail
  refine (head_any _).mono ?_
  rintro e w1 ⟨rfl, hb1⟩
  have HB1 : Hid (Below w.heap.size w w1) := chain (by repeat first | exact Below.refl _ _ | refine chain_alloc ?_ _) hb1
  have X1_0 : Box w1 (w.heap.size) c h x := Box.below (by repeat first | exact Box.new _ _ _ _ | refine Box.alloc ?_ _) hb1
  clear hb1
  obtain ⟨l1_0, c1_0, d1_0, f1_0⟩ := id X1_0
  go_wp2_with fail
  refine (size_is c h x n HN.out _).mono ?_
  rintro e w2 ⟨rfl, hb2⟩
  have HB2 : Hid (Below w.heap.size w w2) := chain (by repeat first | exact HB1.out | exact Below.refl _ _ | refine chain_alloc ?_ _) hb2
  have X2_0 : Box w2 (w.heap.size) c h x := Box.below (by repeat first | exact X1_0 | exact Box.new _ _ _ _ | refine Box.alloc ?_ _) hb2
  clear hb2 l1_0 c1_0 d1_0 f1_0 HB1 X1_0
  obtain ⟨l2_0, c2_0, d2_0, f2_0⟩ := id X2_0
  go_wp2_with fail
  refine (of_is c h x (i % n) C Y X true HI.out _).mono ?_
  rintro e w3 ⟨rfl, hb3⟩
  have HB3 : Hid (Below w.heap.size w w3) := chain (by repeat first | exact HB2.out | exact Below.refl _ _ | refine chain_alloc ?_ _) hb3
  have X3_0 : Box w3 (w.heap.size) c h x := Box.below (by repeat first | exact X2_0 | exact Box.new _ _ _ _ | refine Box.alloc ?_ _) hb3
  clear hb3 l2_0 c2_0 d2_0 f2_0 HB2 X2_0
  obtain ⟨l3_0, c3_0, d3_0, f3_0⟩ := id X3_0
  go_wp2_with fail
  refine (of_is c h x (k % n) C Y V true HK.out _).mono ?_
  rintro e w4 ⟨rfl, hb4⟩
  have HB4 : Hid (Below w.heap.size w w4) := chain (by repeat first | exact HB3.out | exact Below.refl _ _ | refine chain_alloc ?_ _) hb4
  have X4_0 : Box w4 (w.heap.size) c h x := Box.below (by repeat first | exact X3_0 | exact Box.new _ _ _ _ | refine Box.alloc ?_ _) hb4
  clear hb4 l3_0 c3_0 d3_0 f3_0 HB3 X3_0
  obtain ⟨l4_0, c4_0, d4_0, f4_0⟩ := id X4_0
  go_wp2_with fail
  go_ret
  exact ⟨rfl, by repeat first | exact HB4.out | refine chain_alloc ?_ _⟩

set_option maxHeartbeats 1000000 in
set_option maxRecDepth 100000 in
theorem order_x2 (c h x i k n C Y X D Z V : Int) (w : World) (i0 : 0 ≤ i ∧ i ≤ 255) (k0 : 0 ≤ k ∧ k ≤ 255) (n1 : 1 ≤ n) (n2 : n ≤ 128) (hn : sizeI c h x = n)
    (hi : chI c h x (i % n) = C ∧ rowI c h x (i % n) = Y ∧ colI c h x (i % n) = X ∧ hasB c h x (i % n) = true) (hk : chI c h x (k % n) = D ∧ rowI c h x (k % n) = Z ∧ colI c h x (k % n) = V ∧ hasB c h x (k % n) = true)
    (e0 : C = D) (e1 : Y = Z) (g : V ≤ X) (l : k % n ≤ i % n) :
    Calls Try.prog 9 #[.agg #[.int .i64 c, .int .i64 h, .int .i64 x], .int .u8 i, .int .u8 k] w fun e w' => e = .returned (.bool true) ∧ Below w.heap.size w w' := by
  obtain ⟨i1, i2⟩ := i0
  obtain ⟨k1, k2⟩ := k0
  subst e0
  subst e1
  have f0 : decide (X < V) = false := by simp; omega
  have f9 : decide (i % n < k % n) = false := by simp; omega
  have n0 : ¬ n = 0 := by omega
  have n3 : decide (n < 1) = false := by simp; omega
  have HN := Lib.hid hn; clear hn
  have HI := Lib.hid hi; clear hi
  have HK := Lib.hid hk; clear hk
  go_enter Try.func9, Try.ntmps9
  go_wp2_with fail
  refine (head_any _).mono ?_
  rintro e w1 ⟨rfl, hb1⟩
  have HB1 : Hid (Below w.heap.size w w1) := chain (by repeat first | exact Below.refl _ _ | refine chain_alloc ?_ _) hb1
  have X1_0 : Box w1 (w.heap.size) c h x := Box.below (by repeat first | exact Box.new _ _ _ _ | refine Box.alloc ?_ _) hb1
  clear hb1
  obtain ⟨l1_0, c1_0, d1_0, f1_0⟩ := id X1_0
  go_wp2_with fail
  refine (size_is c h x n HN.out _).mono ?_
  rintro e w2 ⟨rfl, hb2⟩
  have HB2 : Hid (Below w.heap.size w w2) := chain (by repeat first | exact HB1.out | exact Below.refl _ _ | refine chain_alloc ?_ _) hb2
  have X2_0 : Box w2 (w.heap.size) c h x := Box.below (by repeat first | exact X1_0 | exact Box.new _ _ _ _ | refine Box.alloc ?_ _) hb2
  clear hb2 l1_0 c1_0 d1_0 f1_0 HB1 X1_0
  obtain ⟨l2_0, c2_0, d2_0, f2_0⟩ := id X2_0
  go_wp2_with fail
  refine (of_is c h x (i % n) C Y X true HI.out _).mono ?_
  rintro e w3 ⟨rfl, hb3⟩
  have HB3 : Hid (Below w.heap.size w w3) := chain (by repeat first | exact HB2.out | exact Below.refl _ _ | refine chain_alloc ?_ _) hb3
  have X3_0 : Box w3 (w.heap.size) c h x := Box.below (by repeat first | exact X2_0 | exact Box.new _ _ _ _ | refine Box.alloc ?_ _) hb3
  clear hb3 l2_0 c2_0 d2_0 f2_0 HB2 X2_0
  obtain ⟨l3_0, c3_0, d3_0, f3_0⟩ := id X3_0
  go_wp2_with fail
  refine (of_is c h x (k % n) C Y V true HK.out _).mono ?_
  rintro e w4 ⟨rfl, hb4⟩
  have HB4 : Hid (Below w.heap.size w w4) := chain (by repeat first | exact HB3.out | exact Below.refl _ _ | refine chain_alloc ?_ _) hb4
  have X4_0 : Box w4 (w.heap.size) c h x := Box.below (by repeat first | exact X3_0 | exact Box.new _ _ _ _ | refine Box.alloc ?_ _) hb4
  clear hb4 l3_0 c3_0 d3_0 f3_0 HB3 X3_0
  obtain ⟨l4_0, c4_0, d4_0, f4_0⟩ := id X4_0
  go_wp2_with fail
  go_ret
  exact ⟨rfl, by repeat first | exact HB4.out | refine chain_alloc ?_ _⟩

/-- The order of two places. -/
theorem lesser {c h x a b : Int} (ha : hasB c h x a = true) (hb : hasB c h x b = true) :
    (a / (h * x) < b / (h * x) → a < b) ∧ (a / (h * x) = b / (h * x) → a / x % h < b / x % h → a < b) ∧ (a / (h * x) = b / (h * x) → a / x % h = b / x % h → (a % x < b % x ↔ a < b)) := by
  obtain ⟨a1, a2, a3, a4, a5, a6, a7⟩ := rightB_out (hasB_right ha)
  obtain ⟨ra, pa⟩ := of_at ha
  obtain ⟨rb, pb⟩ := of_at hb
  obtain ⟨_, _, _, y0, y1, x0, x1⟩ := insideB_out ra
  obtain ⟨_, _, _, z0, z1, v0, v1⟩ := insideB_out rb
  generalize a / (h * x) = C at *
  generalize a / x % h = Y at *
  generalize a % x = X at *
  generalize b / (h * x) = D at *
  generalize b / x % h = Z at *
  generalize b % x = V at *
  have step : ∀ p q : Int, p < q → p * x + X < q * x + V := fun p q hpq => by
    have h1 : (p + 1) * x ≤ q * x := Int.mul_le_mul_of_nonneg_right (by omega) (by omega)
    rw [Int.add_mul, Int.one_mul] at h1
    omega
  refine ⟨fun hlt => ?_, fun he hlt => ?_, fun he hy => ?_⟩
  · have h1 : (C + 1) * h ≤ D * h := Int.mul_le_mul_of_nonneg_right (by omega) (by omega)
    rw [Int.add_mul, Int.one_mul] at h1
    have := step (C * h + Y) (D * h + Z) (by omega)
    omega
  · subst he
    have := step (C * h + Y) (C * h + Z) (by omega)
    omega
  · subst he hy
    constructor <;> intro <;> omega

theorem order_walk (c h x i k : Int) (w : World) (i0 : 0 ≤ i ∧ i ≤ 255) (k0 : 0 ≤ k ∧ k ≤ 255) : Calls Try.prog 9 #[.agg #[.int .i64 c, .int .i64 h, .int .i64 x], .int .u8 i, .int .u8 k] w fun e w' => e = .returned (.bool true) ∧ Below w.heap.size w w' := by
  have sb := sizeI_bd c h x
  by_cases n0 : sizeI c h x = 0
  · exact order_none c h x i k w n0
  have ha : hasB c h x (i % sizeI c h x) = true := hasB_yes (Int.emod_nonneg _ n0) (Int.emod_lt_of_pos _ (by omega))
  have hb : hasB c h x (k % sizeI c h x) = true := hasB_yes (Int.emod_nonneg _ n0) (Int.emod_lt_of_pos _ (by omega))
  have qa := of_yes ha
  have qb := of_yes hb
  have oa : chI c h x (i % sizeI c h x) = _ ∧ rowI c h x (i % sizeI c h x) = _ ∧ colI c h x (i % sizeI c h x) = _ ∧ hasB c h x (i % sizeI c h x) = true := ⟨qa.1, qa.2.1, qa.2.2, ha⟩
  have ob : chI c h x (k % sizeI c h x) = _ ∧ rowI c h x (k % sizeI c h x) = _ ∧ colI c h x (k % sizeI c h x) = _ ∧ hasB c h x (k % sizeI c h x) = true := ⟨qb.1, qb.2.1, qb.2.2, hb⟩
  obtain ⟨l1, l2, l3⟩ := lesser ha hb
  obtain ⟨m1, m2, m3⟩ := lesser hb ha
  have z : 1 ≤ sizeI c h x := by omega
  rcases Int.lt_trichotomy (i % sizeI c h x / (h * x)) (k % sizeI c h x / (h * x)) with g | g | g
  · exact order_c1 c h x i k _ _ _ _ _ _ _ w i0 k0 z sb.2 rfl oa ob g (l1 g)
  · rcases Int.lt_trichotomy (i % sizeI c h x / x % h) (k % sizeI c h x / x % h) with g2 | g2 | g2
    · exact order_y1 c h x i k _ _ _ _ _ _ _ w i0 k0 z sb.2 rfl oa ob g g2 (l2 g g2)
    · by_cases g3 : i % sizeI c h x % x < k % sizeI c h x % x
      · exact order_x1 c h x i k _ _ _ _ _ _ _ w i0 k0 z sb.2 rfl oa ob g g2 g3 ((l3 g g2).1 g3)
      · exact order_x2 c h x i k _ _ _ _ _ _ _ w i0 k0 z sb.2 rfl oa ob g g2 (by omega) (by have := l3 g g2; omega)
    · exact order_y2 c h x i k _ _ _ _ _ _ _ w i0 k0 z sb.2 rfl oa ob g g2 (by have := m2 g.symm g2; omega)
  · exact order_c2 c h x i k _ _ _ _ _ _ _ w i0 k0 z sb.2 rfl oa ob g (by have := m1 g; omega)

end Go.Proofs.Ytemkloomigijjaa
