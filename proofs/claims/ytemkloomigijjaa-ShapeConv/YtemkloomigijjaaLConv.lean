/-
  What ShapeConv answers: true, whatever it is asked.
-/
import Derived.Test.YtemkloomigijjaaIs
namespace Go.Proofs.Ytemkloomigijjaa
open Go.RowKit

set_option maxHeartbeats 1000000 in
set_option maxRecDepth 100000 in
theorem conv_walk_none (c h x out size step : Int) (w : World) (hc : convC c h x out size step = 0 ∧ convH c h x out size step = 0 ∧ convW c h x out size step = 0 ∧ convB c h x out size step = false) :
    Calls Try.prog 5 #[.agg #[.int .i64 c, .int .i64 h, .int .i64 x], .int .i64 out, .int .i64 size, .int .i64 step] w fun e w' => e = .returned (.bool true) ∧ Below w.heap.size w w' := by
  have HC := Lib.hid hc; clear hc
  have q1 := fun w => shape_eq 0 0 0 0 0 0 w true (by decide)
  go_enter Try.func5, Try.ntmps5
  go_wp2_with fail
  refine (head_any _).mono ?_
  rintro e w1 ⟨rfl, hb1⟩
  have HB1 : Hid (Below w.heap.size w w1) := chain (by repeat first | exact Below.refl _ _ | refine chain_alloc ?_ _) hb1
  have X1_0 : Box w1 (w.heap.size) c h x := Box.below (by repeat first | exact Box.new _ _ _ _ | refine Box.alloc ?_ _) hb1
  clear hb1
  obtain ⟨l1_0, c1_0, d1_0, f1_0⟩ := id X1_0
  go_wp2_with fail
  refine (conv_to c h x out size step 0 0 0 false HC.out _).mono ?_
  rintro e w2 ⟨rfl, hb2⟩
  have HB2 : Hid (Below w.heap.size w w2) := chain (by repeat first | exact HB1.out | exact Below.refl _ _ | refine chain_alloc ?_ _) hb2
  have X2_0 : Box w2 (w.heap.size) c h x := Box.below (by repeat first | exact X1_0 | exact Box.new _ _ _ _ | refine Box.alloc ?_ _) hb2
  clear hb2 l1_0 c1_0 d1_0 f1_0 HB1 X1_0
  obtain ⟨l2_0, c2_0, d2_0, f2_0⟩ := id X2_0
  go_wp2_with fail
  go_ret
  exact ⟨rfl, by repeat first | exact HB2.out | refine chain_alloc ?_ _⟩

set_option maxHeartbeats 1000000 in
set_option maxRecDepth 100000 in
theorem conv_walk_some (c h x out size step m n : Int) (w : World) (hc : convC c h x out size step = out ∧ convH c h x out size step = m ∧ convW c h x out size step = n ∧ convB c h x out size step = true)
    (hr : rightB out m n = true) (s1 : 1 ≤ size) (s2 : size ≤ 12) (t1 : 1 ≤ step) (m1 : 1 ≤ m) (m2 : m ≤ 12) (n1 : 1 ≤ n) (n2 : n ≤ 12)
    (u0 : 0 ≤ (m - 1) * step) (u1 : (m - 1) * step + size ≤ h) (u2 : h < m * step + size) (u3 : 0 ≤ m * step) (u4 : m * step ≤ 1000) (h2 : h ≤ 12)
    (v0 : 0 ≤ (n - 1) * step) (v1 : (n - 1) * step + size ≤ x) (v2 : x < n * step + size) (v3 : 0 ≤ n * step) (v4 : n * step ≤ 1000) (x2 : x ≤ 12) :
    Calls Try.prog 5 #[.agg #[.int .i64 c, .int .i64 h, .int .i64 x], .int .i64 out, .int .i64 size, .int .i64 step] w fun e w' => e = .returned (.bool true) ∧ Below w.heap.size w w' := by
  have HC := Lib.hid hc; clear hc
  have HR := Lib.hid hr; clear hr
  have u5 : (m - 1) * step ≤ 12 := by omega
  have v5 : (n - 1) * step ≤ 12 := by omega
  have f1 : decide ((m - 1) * step + size ≤ h) = true := decide_eq_true u1
  have f2 : decide (h < m * step + size) = true := decide_eq_true u2
  have f3 : decide ((n - 1) * step + size ≤ x) = true := decide_eq_true v1
  have f4 : decide (x < n * step + size) = true := decide_eq_true v2
  have f5 : decide (1 ≤ size) = true := decide_eq_true s1
  have f6 : decide (1 ≤ step) = true := decide_eq_true t1
  go_enter Try.func5, Try.ntmps5
  go_wp2_with fail
  refine (head_any _).mono ?_
  rintro e w1 ⟨rfl, hb1⟩
  have HB1 : Hid (Below w.heap.size w w1) := chain (by repeat first | exact Below.refl _ _ | refine chain_alloc ?_ _) hb1
  have X1_0 : Box w1 (w.heap.size) c h x := Box.below (by repeat first | exact Box.new _ _ _ _ | refine Box.alloc ?_ _) hb1
  clear hb1
  obtain ⟨l1_0, c1_0, d1_0, f1_0⟩ := id X1_0
  go_wp2_with fail
  refine (conv_to c h x out size step out m n true HC.out _).mono ?_
  rintro e w2 ⟨rfl, hb2⟩
  have HB2 : Hid (Below w.heap.size w w2) := chain (by repeat first | exact HB1.out | exact Below.refl _ _ | refine chain_alloc ?_ _) hb2
  have X2_0 : Box w2 (w.heap.size) c h x := Box.below (by repeat first | exact X1_0 | exact Box.new _ _ _ _ | refine Box.alloc ?_ _) hb2
  clear hb2 l1_0 c1_0 d1_0 f1_0 HB1 X1_0
  obtain ⟨l2_0, c2_0, d2_0, f2_0⟩ := id X2_0
  go_wp2_with fail
  refine (right_is out m n true HR.out _).mono ?_
  rintro e w3 ⟨rfl, hb3⟩
  have HB3 : Hid (Below w.heap.size w w3) := chain (by repeat first | exact HB2.out | exact Below.refl _ _ | refine chain_alloc ?_ _) hb3
  have X3_0 : Box w3 (w.heap.size) c h x := Box.below (by repeat first | exact X2_0 | exact Box.new _ _ _ _ | refine Box.alloc ?_ _) hb3
  have X3_1 : Box w3 (w2.heap.size) out m n := Box.below (by repeat first | exact Box.new _ _ _ _ | refine Box.alloc ?_ _) hb3
  clear hb3 l2_0 c2_0 d2_0 f2_0 HB2 X2_0
  obtain ⟨l3_0, c3_0, d3_0, f3_0⟩ := id X3_0
  obtain ⟨l3_1, c3_1, d3_1, f3_1⟩ := id X3_1
  go_wp2_with fail
  go_ret
  exact ⟨rfl, by repeat first | exact HB3.out | refine chain_alloc ?_ _⟩

/-- Windows lie within, and there is no room for one more. -/
theorem windows {h size step : Int} (s1 : 1 ≤ size) (s2 : size ≤ h) (h2 : h ≤ 12) (t1 : 1 ≤ step) (t2 : step ≤ 12) :
    0 ≤ ((h - size) / step + 1 - 1) * step ∧ ((h - size) / step + 1 - 1) * step + size ≤ h ∧ h < ((h - size) / step + 1) * step + size ∧ 0 ≤ ((h - size) / step + 1) * step ∧ ((h - size) / step + 1) * step ≤ 1000 := by
  have a := Int.mul_ediv_add_emod (h - size) step
  have b := Int.emod_nonneg (h - size) (show step ≠ 0 by omega)
  have d := Int.emod_lt_of_pos (h - size) (show 0 < step by omega)
  have e : ((h - size) / step + 1 - 1) * step = step * ((h - size) / step) := by rw [Int.add_sub_cancel, Int.mul_comm]
  have f : ((h - size) / step + 1) * step = step * ((h - size) / step) + step := by rw [Int.add_mul, Int.one_mul, Int.mul_comm]
  have g : 0 ≤ step * ((h - size) / step) := mul_lo (by omega) (Int.ediv_nonneg (by omega) (by omega))
  rw [e, f]
  omega

theorem conv_walk (c h x out size step : Int) (w : World) : Calls Try.prog 5 #[.agg #[.int .i64 c, .int .i64 h, .int .i64 x], .int .i64 out, .int .i64 size, .int .i64 step] w fun e w' => e = .returned (.bool true) ∧ Below w.heap.size w w' := by
  cases f : convB c h x out size step
  · have n := conv_none f
    exact conv_walk_none c h x out size step w ⟨n.1, n.2.1, n.2.2, f⟩
  · obtain ⟨r, o1, o2, s1, s2, t1, t2, n⟩ := convB_out f
    obtain ⟨a1, a2, a3, a4, a5, a6, a7⟩ := rightB_out r
    obtain ⟨_, _, m1, m2, n1, n2, _⟩ := rightB_out n
    have k := conv_is f
    obtain ⟨u0, u1, u2, u3, u4⟩ := windows (h := h) s1 (by omega) a4 t1 t2
    obtain ⟨v0, v1, v2, v3, v4⟩ := windows (h := x) s1 (by omega) a6 t1 t2
    exact conv_walk_some c h x out size step _ _ w ⟨k.1, k.2.1, k.2.2, f⟩ n s1 (by omega) t1 m1 m2 n1 n2 u0 u1 u2 u3 u4 a4 v0 v1 v2 v3 v4 a6

end Go.Proofs.Ytemkloomigijjaa
