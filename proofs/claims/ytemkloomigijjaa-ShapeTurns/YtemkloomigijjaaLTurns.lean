/-
  What ShapeTurns answers: true, whatever it is asked.
-/
import Derived.Test.YtemkloomigijjaaIs
namespace Go.Proofs.Ytemkloomigijjaa
open Go.RowKit

set_option maxHeartbeats 2000000 in
set_option maxRecDepth 100000 in
theorem turns_core (c h x out size step a1 a2 a3 b1 b2 b3 n : Int) (is it r : Bool) (w : World)
    (ha : convC c h x out size step = a1 ∧ convH c h x out size step = a2 ∧ convW c h x out size step = a3 ∧ convB c h x out size step = is)
    (hb : convC c x h out size step = a1 ∧ convH c x h out size step = a3 ∧ convW c x h out size step = a2 ∧ convB c x h out size step = is)
    (hc : poolC c h x size = b1 ∧ poolH c h x size = b2 ∧ poolW c h x size = b3 ∧ poolB c h x size = it)
    (hd : poolC c x h size = b1 ∧ poolH c x h size = b3 ∧ poolW c x h size = b2 ∧ poolB c x h size = it)
    (hr : rightB c h x = r) (hs : rightB c x h = r) (hn : sizeI c h x = n) (hm : sizeI c x h = n) : Calls Try.prog 7 #[.agg #[.int .i64 c, .int .i64 h, .int .i64 x], .int .i64 out, .int .i64 size, .int .i64 step] w fun e w' => e = .returned (.bool true) ∧ Below w.heap.size w w' := by
  have HA := Lib.hid ha; clear ha
  have HB := Lib.hid hb; clear hb
  have HC := Lib.hid hc; clear hc
  have HD := Lib.hid hd; clear hd
  have HR := Lib.hid hr; clear hr
  have HS := Lib.hid hs; clear hs
  have HN := Lib.hid hn; clear hn
  have HM := Lib.hid hm; clear hm
  have q1 := fun w => shape_eq a1 a3 a2 a1 a3 a2 w true (by simp)
  have q2 := fun w => shape_eq b1 b3 b2 b1 b3 b2 w true (by simp)
  go_enter Try.func7, Try.ntmps7
  go_wp2_with fail
  refine (head_any _).mono ?_
  rintro e w1 ⟨rfl, hb1⟩
  have HB1 : Hid (Below w.heap.size w w1) := chain (by repeat first | exact Below.refl _ _ | refine chain_alloc ?_ _) hb1
  have X1_0 : Box w1 (w.heap.size) c h x := Box.below (by repeat first | exact Box.new _ _ _ _ | refine Box.alloc ?_ _) hb1
  clear hb1
  obtain ⟨l1_0, c1_0, d1_0, f1_0⟩ := id X1_0
  go_wp2_with fail
  refine (conv_to c h x out size step a1 a2 a3 is HA.out _).mono ?_
  rintro e w2 ⟨rfl, hb2⟩
  have HB2 : Hid (Below w.heap.size w w2) := chain (by repeat first | exact HB1.out | exact Below.refl _ _ | refine chain_alloc ?_ _) hb2
  have X2_0 : Box w2 (w.heap.size) c h x := Box.below (by repeat first | exact X1_0 | exact Box.new _ _ _ _ | refine Box.alloc ?_ _) hb2
  have X2_1 : Box w2 (w1.heap.size) c x h := Box.below (by repeat first | exact Box.new _ _ _ _ | refine Box.alloc ?_ _) hb2
  clear hb2 l1_0 c1_0 d1_0 f1_0 HB1 X1_0
  obtain ⟨l2_0, c2_0, d2_0, f2_0⟩ := id X2_0
  obtain ⟨l2_1, c2_1, d2_1, f2_1⟩ := id X2_1
  go_wp2_with fail
  refine (conv_to c x h out size step a1 a3 a2 is HB.out _).mono ?_
  rintro e w3 ⟨rfl, hb3⟩
  have HB3 : Hid (Below w.heap.size w w3) := chain (by repeat first | exact HB2.out | exact Below.refl _ _ | refine chain_alloc ?_ _) hb3
  have X3_0 : Box w3 (w.heap.size) c h x := Box.below (by repeat first | exact X2_0 | exact Box.new _ _ _ _ | refine Box.alloc ?_ _) hb3
  have X3_1 : Box w3 (w1.heap.size) c x h := Box.below (by repeat first | exact X2_1 | exact Box.new _ _ _ _ | refine Box.alloc ?_ _) hb3
  have X3_2 : Box w3 (w2.heap.size) a1 a2 a3 := Box.below (by repeat first | exact Box.new _ _ _ _ | refine Box.alloc ?_ _) hb3
  clear hb3 l2_0 c2_0 d2_0 f2_0 l2_1 c2_1 d2_1 f2_1 HB2 X2_0 X2_1
  obtain ⟨l3_0, c3_0, d3_0, f3_0⟩ := id X3_0
  obtain ⟨l3_1, c3_1, d3_1, f3_1⟩ := id X3_1
  obtain ⟨l3_2, c3_2, d3_2, f3_2⟩ := id X3_2
  go_wp2_with fail
  refine (pool_to c h x size b1 b2 b3 it HC.out _).mono ?_
  rintro e w4 ⟨rfl, hb4⟩
  have HB4 : Hid (Below w.heap.size w w4) := chain (by repeat first | exact HB3.out | exact Below.refl _ _ | refine chain_alloc ?_ _) hb4
  have X4_0 : Box w4 (w.heap.size) c h x := Box.below (by repeat first | exact X3_0 | exact Box.new _ _ _ _ | refine Box.alloc ?_ _) hb4
  have X4_1 : Box w4 (w1.heap.size) c x h := Box.below (by repeat first | exact X3_1 | exact Box.new _ _ _ _ | refine Box.alloc ?_ _) hb4
  have X4_2 : Box w4 (w2.heap.size) a1 a2 a3 := Box.below (by repeat first | exact X3_2 | exact Box.new _ _ _ _ | refine Box.alloc ?_ _) hb4
  have X4_3 : Box w4 (w3.heap.size) a1 a3 a2 := Box.below (by repeat first | exact Box.new _ _ _ _ | refine Box.alloc ?_ _) hb4
  clear hb4 l3_0 c3_0 d3_0 f3_0 l3_1 c3_1 d3_1 f3_1 l3_2 c3_2 d3_2 f3_2 HB3 X3_0 X3_1 X3_2
  obtain ⟨l4_0, c4_0, d4_0, f4_0⟩ := id X4_0
  obtain ⟨l4_1, c4_1, d4_1, f4_1⟩ := id X4_1
  obtain ⟨l4_2, c4_2, d4_2, f4_2⟩ := id X4_2
  obtain ⟨l4_3, c4_3, d4_3, f4_3⟩ := id X4_3
  go_wp2_with fail
  refine (pool_to c x h size b1 b3 b2 it HD.out _).mono ?_
  rintro e w5 ⟨rfl, hb5⟩
  have HB5 : Hid (Below w.heap.size w w5) := chain (by repeat first | exact HB4.out | exact Below.refl _ _ | refine chain_alloc ?_ _) hb5
  have X5_0 : Box w5 (w.heap.size) c h x := Box.below (by repeat first | exact X4_0 | exact Box.new _ _ _ _ | refine Box.alloc ?_ _) hb5
  have X5_1 : Box w5 (w1.heap.size) c x h := Box.below (by repeat first | exact X4_1 | exact Box.new _ _ _ _ | refine Box.alloc ?_ _) hb5
  have X5_2 : Box w5 (w2.heap.size) a1 a2 a3 := Box.below (by repeat first | exact X4_2 | exact Box.new _ _ _ _ | refine Box.alloc ?_ _) hb5
  have X5_3 : Box w5 (w3.heap.size) a1 a3 a2 := Box.below (by repeat first | exact X4_3 | exact Box.new _ _ _ _ | refine Box.alloc ?_ _) hb5
  have X5_4 : Box w5 (w4.heap.size) b1 b2 b3 := Box.below (by repeat first | exact Box.new _ _ _ _ | refine Box.alloc ?_ _) hb5
  clear hb5 l4_0 c4_0 d4_0 f4_0 l4_1 c4_1 d4_1 f4_1 l4_2 c4_2 d4_2 f4_2 l4_3 c4_3 d4_3 f4_3 HB4 X4_0 X4_1 X4_2 X4_3
  obtain ⟨l5_0, c5_0, d5_0, f5_0⟩ := id X5_0
  obtain ⟨l5_1, c5_1, d5_1, f5_1⟩ := id X5_1
  obtain ⟨l5_2, c5_2, d5_2, f5_2⟩ := id X5_2
  obtain ⟨l5_3, c5_3, d5_3, f5_3⟩ := id X5_3
  obtain ⟨l5_4, c5_4, d5_4, f5_4⟩ := id X5_4
  go_wp2_with fail
  have HBc : Hid (Below w.heap.size w (w5.alloc (.cells #[.int .i64 b1, .int .i64 b3, .int .i64 b2] 23)).drew) := Below.drew (by repeat first | exact HB5.out | refine chain_alloc ?_ _)
  have XB0 : Box (w5.alloc (.cells #[.int .i64 b1, .int .i64 b3, .int .i64 b2] 23)).drew (w.heap.size) c h x := Box.drew (by repeat first | exact X5_0 | exact Box.new _ _ _ _ | refine Box.alloc ?_ _)
  have XB1 : Box (w5.alloc (.cells #[.int .i64 b1, .int .i64 b3, .int .i64 b2] 23)).drew (w1.heap.size) c x h := Box.drew (by repeat first | exact X5_1 | exact Box.new _ _ _ _ | refine Box.alloc ?_ _)
  have XB2 : Box (w5.alloc (.cells #[.int .i64 b1, .int .i64 b3, .int .i64 b2] 23)).drew (w2.heap.size) a1 a2 a3 := Box.drew (by repeat first | exact X5_2 | exact Box.new _ _ _ _ | refine Box.alloc ?_ _)
  have XB3 : Box (w5.alloc (.cells #[.int .i64 b1, .int .i64 b3, .int .i64 b2] 23)).drew (w3.heap.size) a1 a3 a2 := Box.drew (by repeat first | exact X5_3 | exact Box.new _ _ _ _ | refine Box.alloc ?_ _)
  have XB4 : Box (w5.alloc (.cells #[.int .i64 b1, .int .i64 b3, .int .i64 b2] 23)).drew (w4.heap.size) b1 b2 b3 := Box.drew (by repeat first | exact X5_4 | exact Box.new _ _ _ _ | refine Box.alloc ?_ _)
  have XB5 : Box (w5.alloc (.cells #[.int .i64 b1, .int .i64 b3, .int .i64 b2] 23)).drew (w5.heap.size) b1 b3 b2 := Box.drew (by repeat first | exact Box.new _ _ _ _ | refine Box.alloc ?_ _)
  clear HB5 X5_0 X5_1 X5_2 X5_3 X5_4 l5_0 c5_0 d5_0 f5_0 l5_1 c5_1 d5_1 f5_1 l5_2 c5_2 d5_2 f5_2 l5_3 c5_3 d5_3 f5_3 l5_4 c5_4 d5_4 f5_4
  go_region_held3 (fun w' => w'.cell? ⟨w.heap.size, 0, none⟩ = some (.int .i64 c) ∧ w'.cell? ⟨w.heap.size, 1, none⟩ = some (.int .i64 h) ∧ w'.cell? ⟨w.heap.size, 2, none⟩ = some (.int .i64 x) ∧ w'.cell? ⟨w1.heap.size, 0, none⟩ = some (.int .i64 c) ∧ w'.cell? ⟨w1.heap.size, 1, none⟩ = some (.int .i64 x) ∧ w'.cell? ⟨w1.heap.size, 2, none⟩ = some (.int .i64 h) ∧ w'.cell? ⟨w2.heap.size, 0, none⟩ = some (.int .i64 a1) ∧ w'.cell? ⟨w2.heap.size, 1, none⟩ = some (.int .i64 a2) ∧ w'.cell? ⟨w2.heap.size, 2, none⟩ = some (.int .i64 a3) ∧ w'.cell? ⟨w3.heap.size, 0, none⟩ = some (.int .i64 a1) ∧ w'.cell? ⟨w3.heap.size, 1, none⟩ = some (.int .i64 a3) ∧ w'.cell? ⟨w3.heap.size, 2, none⟩ = some (.int .i64 a2) ∧ w'.cell? ⟨w4.heap.size, 0, none⟩ = some (.int .i64 b1) ∧ w'.cell? ⟨w4.heap.size, 1, none⟩ = some (.int .i64 b2) ∧ w'.cell? ⟨w4.heap.size, 2, none⟩ = some (.int .i64 b3) ∧ w'.cell? ⟨w5.heap.size, 0, none⟩ = some (.int .i64 b1) ∧ w'.cell? ⟨w5.heap.size, 1, none⟩ = some (.int .i64 b3) ∧ w'.cell? ⟨w5.heap.size, 2, none⟩ = some (.int .i64 b2)) (exact ⟨XB0.2.1, XB0.2.2.1, XB0.2.2.2, XB1.2.1, XB1.2.2.1, XB1.2.2.2, XB2.2.1, XB2.2.2.1, XB2.2.2.2, XB3.2.1, XB3.2.2.1, XB3.2.2.2, XB4.2.1, XB4.2.2.1, XB4.2.2.2, XB5.2.1, XB5.2.2.1, XB5.2.2.2⟩) (first
    | (go_at_call 17; (with_reducible refine (right_is c h x r HR.out _).mono ?_); rintro e wn ⟨rfl, hb⟩; have HBn : Hid (Below w.heap.size w _) := chain HBc.out hb; have Y0 := Box.below XB0 hb; have Y1 := Box.below XB1 hb; have Y2 := Box.below XB2 hb; have Y3 := Box.below XB3 hb; have Y4 := Box.below XB4 hb; have Y5 := Box.below XB5 hb; clear HBc hb XB0 XB1 XB2 XB3 XB4 XB5; have HBc := Lib.hid HBn.out; have XB0 := Y0; have XB1 := Y1; have XB2 := Y2; have XB3 := Y3; have XB4 := Y4; have XB5 := Y5; clear HBn Y0 Y1 Y2 Y3 Y4 Y5)
    | (go_at_call 17; (with_reducible refine (right_is c x h r HS.out _).mono ?_); rintro e wn ⟨rfl, hb⟩; have HBn : Hid (Below w.heap.size w _) := chain HBc.out hb; have Y0 := Box.below XB0 hb; have Y1 := Box.below XB1 hb; have Y2 := Box.below XB2 hb; have Y3 := Box.below XB3 hb; have Y4 := Box.below XB4 hb; have Y5 := Box.below XB5 hb; clear HBc hb XB0 XB1 XB2 XB3 XB4 XB5; have HBc := Lib.hid HBn.out; have XB0 := Y0; have XB1 := Y1; have XB2 := Y2; have XB3 := Y3; have XB4 := Y4; have XB5 := Y5; clear HBn Y0 Y1 Y2 Y3 Y4 Y5)
    | (go_at_call 19; (with_reducible refine (size_is c h x n HN.out _).mono ?_); rintro e wn ⟨rfl, hb⟩; have HBn : Hid (Below w.heap.size w _) := chain HBc.out hb; have Y0 := Box.below XB0 hb; have Y1 := Box.below XB1 hb; have Y2 := Box.below XB2 hb; have Y3 := Box.below XB3 hb; have Y4 := Box.below XB4 hb; have Y5 := Box.below XB5 hb; clear HBc hb XB0 XB1 XB2 XB3 XB4 XB5; have HBc := Lib.hid HBn.out; have XB0 := Y0; have XB1 := Y1; have XB2 := Y2; have XB3 := Y3; have XB4 := Y4; have XB5 := Y5; clear HBn Y0 Y1 Y2 Y3 Y4 Y5)
    | (go_at_call 19; (with_reducible refine (size_is c x h n HM.out _).mono ?_); rintro e wn ⟨rfl, hb⟩; have HBn : Hid (Below w.heap.size w _) := chain HBc.out hb; have Y0 := Box.below XB0 hb; have Y1 := Box.below XB1 hb; have Y2 := Box.below XB2 hb; have Y3 := Box.below XB3 hb; have Y4 := Box.below XB4 hb; have Y5 := Box.below XB5 hb; clear HBc hb XB0 XB1 XB2 XB3 XB4 XB5; have HBc := Lib.hid HBn.out; have XB0 := Y0; have XB1 := Y1; have XB2 := Y2; have XB3 := Y3; have XB4 := Y4; have XB5 := Y5; clear HBn Y0 Y1 Y2 Y3 Y4 Y5)
    | fail)
  go_wp2_with fail
  go_ret
  exact ⟨rfl, HBc.out⟩

theorem right_turn (c h x : Int) : rightB c x h = rightB c h x := by
  unfold rightB
  rw [Bool.eq_iff_iff]
  have e : c * x * h = c * h * x := by rw [Int.mul_assoc, Int.mul_comm x h, ← Int.mul_assoc]
  simp only [decide_eq_true_eq, e]
  omega
theorem size_turn (c h x : Int) : sizeI c x h = sizeI c h x := by
  unfold sizeI
  rw [right_turn, Int.mul_assoc, Int.mul_comm x h, ← Int.mul_assoc]
theorem convB_turn (c h x out size step : Int) : convB c x h out size step = convB c h x out size step := by
  unfold convB
  rw [right_turn c h x, right_turn out ((h - size) / step + 1) ((x - size) / step + 1), show min x h = min h x by omega]
theorem poolB_turn (c h x size : Int) : poolB c x h size = poolB c h x size := by
  unfold poolB
  rw [right_turn c h x]
  congr 1
  rw [Bool.eq_iff_iff]
  simp only [decide_eq_true_eq]
  omega

theorem turns_walk (c h x out size step : Int) (w : World) : Calls Try.prog 7 #[.agg #[.int .i64 c, .int .i64 h, .int .i64 x], .int .i64 out, .int .i64 size, .int .i64 step] w fun e w' => e = .returned (.bool true) ∧ Below w.heap.size w w' :=
  turns_core c h x out size step _ _ _ _ _ _ _ _ _ _ w ⟨rfl, rfl, rfl, rfl⟩
    ⟨by unfold convC; rw [convB_turn], by unfold convH convW; rw [convB_turn], by unfold convH convW; rw [convB_turn], convB_turn c h x out size step⟩
    ⟨rfl, rfl, rfl, rfl⟩
    ⟨by unfold poolC; rw [poolB_turn], by unfold poolH poolW; rw [poolB_turn], by unfold poolH poolW; rw [poolB_turn], poolB_turn c h x size⟩
    rfl (right_turn c h x) rfl (size_turn c h x)

end Go.Proofs.Ytemkloomigijjaa
