/-
  What ShapeTells answers: true, whatever it is asked.
-/
import Derived.Test.YtemkloomigijjaaRefConv
import Derived.Deep.RegionHeld3
namespace Go.Proofs.Ytemkloomigijjaa
open Go.RowKit

theorem Box.drew {w : World} {b : Nat} {c h x : Int} (p : Box w b c h x) : Box w.drew b c h x := p

set_option maxHeartbeats 2000000 in
set_option maxRecDepth 100000 in
theorem tells_walk (c h x k y z i out size step : Int) (w : World) :
    Calls Try.prog 3 #[.agg #[.int .i64 c, .int .i64 h, .int .i64 x], .int .i64 k, .int .i64 y, .int .i64 z, .int .i64 i, .int .i64 out, .int .i64 size, .int .i64 step] w fun e w' => e = .returned (.bool true) ∧ Below w.heap.size w w' := by
  have q1 := fun w => shape_eq (convC c h x out size step) (convH c h x out size step) (convW c h x out size step) (convC c h x out size step) (convH c h x out size step) (convW c h x out size step) w true (by simp)
  have q2 := fun w => shape_eq (poolC c h x size) (poolH c h x size) (poolW c h x size) (poolC c h x size) (poolH c h x size) (poolW c h x size) w true (by simp)
  go_enter Try.func3, Try.ntmps3
  go_wp2_with fail
  refine (head_any _).mono ?_
  rintro e w1 ⟨rfl, hb1⟩
  have HB1 : Hid (Below w.heap.size w w1) := chain (by repeat first | exact Below.refl _ _ | refine chain_alloc ?_ _) hb1
  have X1_0 : Box w1 (w.heap.size) c h x := Box.below (by repeat first | exact Box.new _ _ _ _ | refine Box.alloc ?_ _) hb1
  clear hb1
  obtain ⟨l1_0, c1_0, d1_0, f1_0⟩ := id X1_0
  go_wp2_with fail
  refine (of_any c h x i _).mono ?_
  rintro e w2 ⟨rfl, hb2⟩
  have HB2 : Hid (Below w.heap.size w w2) := chain (by repeat first | exact HB1.out | exact Below.refl _ _ | refine chain_alloc ?_ _) hb2
  have X2_0 : Box w2 (w.heap.size) c h x := Box.below (by repeat first | exact X1_0 | exact Box.new _ _ _ _ | refine Box.alloc ?_ _) hb2
  clear hb2 l1_0 c1_0 d1_0 f1_0 HB1 X1_0
  obtain ⟨l2_0, c2_0, d2_0, f2_0⟩ := id X2_0
  go_wp2_with fail
  refine (rof_any c h x i _).mono ?_
  rintro e w3 ⟨rfl, hb3⟩
  have HB3 : Hid (Below w.heap.size w w3) := chain (by repeat first | exact HB2.out | exact Below.refl _ _ | refine chain_alloc ?_ _) hb3
  have X3_0 : Box w3 (w.heap.size) c h x := Box.below (by repeat first | exact X2_0 | exact Box.new _ _ _ _ | refine Box.alloc ?_ _) hb3
  clear hb3 l2_0 c2_0 d2_0 f2_0 HB2 X2_0
  obtain ⟨l3_0, c3_0, d3_0, f3_0⟩ := id X3_0
  go_wp2_with fail
  refine (conv_any c h x out size step _).mono ?_
  rintro e w4 ⟨rfl, hb4⟩
  have HB4 : Hid (Below w.heap.size w w4) := chain (by repeat first | exact HB3.out | exact Below.refl _ _ | refine chain_alloc ?_ _) hb4
  have X4_0 : Box w4 (w.heap.size) c h x := Box.below (by repeat first | exact X3_0 | exact Box.new _ _ _ _ | refine Box.alloc ?_ _) hb4
  clear hb4 l3_0 c3_0 d3_0 f3_0 HB3 X3_0
  obtain ⟨l4_0, c4_0, d4_0, f4_0⟩ := id X4_0
  go_wp2_with fail
  refine (rconv_any c h x out size step _).mono ?_
  rintro e w5 ⟨rfl, hb5⟩
  have HB5 : Hid (Below w.heap.size w w5) := chain (by repeat first | exact HB4.out | exact Below.refl _ _ | refine chain_alloc ?_ _) hb5
  have X5_0 : Box w5 (w.heap.size) c h x := Box.below (by repeat first | exact X4_0 | exact Box.new _ _ _ _ | refine Box.alloc ?_ _) hb5
  have X5_1 : Box w5 (w4.heap.size) (convC c h x out size step) (convH c h x out size step) (convW c h x out size step) := Box.below (by repeat first | exact Box.new _ _ _ _ | refine Box.alloc ?_ _) hb5
  clear hb5 l4_0 c4_0 d4_0 f4_0 HB4 X4_0
  obtain ⟨l5_0, c5_0, d5_0, f5_0⟩ := id X5_0
  obtain ⟨l5_1, c5_1, d5_1, f5_1⟩ := id X5_1
  go_wp2_with fail
  refine (pool_any c h x size _).mono ?_
  rintro e w6 ⟨rfl, hb6⟩
  have HB6 : Hid (Below w.heap.size w w6) := chain (by repeat first | exact HB5.out | exact Below.refl _ _ | refine chain_alloc ?_ _) hb6
  have X6_0 : Box w6 (w.heap.size) c h x := Box.below (by repeat first | exact X5_0 | exact Box.new _ _ _ _ | refine Box.alloc ?_ _) hb6
  have X6_1 : Box w6 (w4.heap.size) (convC c h x out size step) (convH c h x out size step) (convW c h x out size step) := Box.below (by repeat first | exact X5_1 | exact Box.new _ _ _ _ | refine Box.alloc ?_ _) hb6
  have X6_2 : Box w6 (w5.heap.size) (convC c h x out size step) (convH c h x out size step) (convW c h x out size step) := Box.below (by repeat first | exact Box.new _ _ _ _ | refine Box.alloc ?_ _) hb6
  clear hb6 l5_0 c5_0 d5_0 f5_0 l5_1 c5_1 d5_1 f5_1 HB5 X5_0 X5_1
  obtain ⟨l6_0, c6_0, d6_0, f6_0⟩ := id X6_0
  obtain ⟨l6_1, c6_1, d6_1, f6_1⟩ := id X6_1
  obtain ⟨l6_2, c6_2, d6_2, f6_2⟩ := id X6_2
  go_wp2_with fail
  refine (rpool_any c h x size _).mono ?_
  rintro e w7 ⟨rfl, hb7⟩
  have HB7 : Hid (Below w.heap.size w w7) := chain (by repeat first | exact HB6.out | exact Below.refl _ _ | refine chain_alloc ?_ _) hb7
  have X7_0 : Box w7 (w.heap.size) c h x := Box.below (by repeat first | exact X6_0 | exact Box.new _ _ _ _ | refine Box.alloc ?_ _) hb7
  have X7_1 : Box w7 (w4.heap.size) (convC c h x out size step) (convH c h x out size step) (convW c h x out size step) := Box.below (by repeat first | exact X6_1 | exact Box.new _ _ _ _ | refine Box.alloc ?_ _) hb7
  have X7_2 : Box w7 (w5.heap.size) (convC c h x out size step) (convH c h x out size step) (convW c h x out size step) := Box.below (by repeat first | exact X6_2 | exact Box.new _ _ _ _ | refine Box.alloc ?_ _) hb7
  have X7_3 : Box w7 (w6.heap.size) (poolC c h x size) (poolH c h x size) (poolW c h x size) := Box.below (by repeat first | exact Box.new _ _ _ _ | refine Box.alloc ?_ _) hb7
  clear hb7 l6_0 c6_0 d6_0 f6_0 l6_1 c6_1 d6_1 f6_1 l6_2 c6_2 d6_2 f6_2 HB6 X6_0 X6_1 X6_2
  obtain ⟨l7_0, c7_0, d7_0, f7_0⟩ := id X7_0
  obtain ⟨l7_1, c7_1, d7_1, f7_1⟩ := id X7_1
  obtain ⟨l7_2, c7_2, d7_2, f7_2⟩ := id X7_2
  obtain ⟨l7_3, c7_3, d7_3, f7_3⟩ := id X7_3
  go_wp2_with fail
  have HBc : Hid (Below w.heap.size w (w7.alloc (.cells #[.int .i64 (poolC c h x size), .int .i64 (poolH c h x size), .int .i64 (poolW c h x size)] 23)).drew) := Below.drew (by repeat first | exact HB7.out | refine chain_alloc ?_ _)
  have XB0 : Box (w7.alloc (.cells #[.int .i64 (poolC c h x size), .int .i64 (poolH c h x size), .int .i64 (poolW c h x size)] 23)).drew (w.heap.size) c h x := Box.drew (by repeat first | exact X7_0 | exact Box.new _ _ _ _ | refine Box.alloc ?_ _)
  have XB1 : Box (w7.alloc (.cells #[.int .i64 (poolC c h x size), .int .i64 (poolH c h x size), .int .i64 (poolW c h x size)] 23)).drew (w4.heap.size) (convC c h x out size step) (convH c h x out size step) (convW c h x out size step) := Box.drew (by repeat first | exact X7_1 | exact Box.new _ _ _ _ | refine Box.alloc ?_ _)
  have XB2 : Box (w7.alloc (.cells #[.int .i64 (poolC c h x size), .int .i64 (poolH c h x size), .int .i64 (poolW c h x size)] 23)).drew (w5.heap.size) (convC c h x out size step) (convH c h x out size step) (convW c h x out size step) := Box.drew (by repeat first | exact X7_2 | exact Box.new _ _ _ _ | refine Box.alloc ?_ _)
  have XB3 : Box (w7.alloc (.cells #[.int .i64 (poolC c h x size), .int .i64 (poolH c h x size), .int .i64 (poolW c h x size)] 23)).drew (w6.heap.size) (poolC c h x size) (poolH c h x size) (poolW c h x size) := Box.drew (by repeat first | exact X7_3 | exact Box.new _ _ _ _ | refine Box.alloc ?_ _)
  have XB4 : Box (w7.alloc (.cells #[.int .i64 (poolC c h x size), .int .i64 (poolH c h x size), .int .i64 (poolW c h x size)] 23)).drew (w7.heap.size) (poolC c h x size) (poolH c h x size) (poolW c h x size) := Box.drew (by repeat first | exact Box.new _ _ _ _ | refine Box.alloc ?_ _)
  clear HB7 X7_0 X7_1 X7_2 X7_3 l7_0 c7_0 d7_0 f7_0 l7_1 c7_1 d7_1 f7_1 l7_2 c7_2 d7_2 f7_2 l7_3 c7_3 d7_3 f7_3
  simp only [List.append]
  go_region_held3 (fun w' => w'.cell? ⟨w.heap.size, 0, none⟩ = some (.int .i64 c) ∧ w'.cell? ⟨w.heap.size, 1, none⟩ = some (.int .i64 h) ∧ w'.cell? ⟨w.heap.size, 2, none⟩ = some (.int .i64 x) ∧ w'.cell? ⟨w4.heap.size, 0, none⟩ = some (.int .i64 (convC c h x out size step)) ∧ w'.cell? ⟨w4.heap.size, 1, none⟩ = some (.int .i64 (convH c h x out size step)) ∧ w'.cell? ⟨w4.heap.size, 2, none⟩ = some (.int .i64 (convW c h x out size step)) ∧ w'.cell? ⟨w5.heap.size, 0, none⟩ = some (.int .i64 (convC c h x out size step)) ∧ w'.cell? ⟨w5.heap.size, 1, none⟩ = some (.int .i64 (convH c h x out size step)) ∧ w'.cell? ⟨w5.heap.size, 2, none⟩ = some (.int .i64 (convW c h x out size step)) ∧ w'.cell? ⟨w6.heap.size, 0, none⟩ = some (.int .i64 (poolC c h x size)) ∧ w'.cell? ⟨w6.heap.size, 1, none⟩ = some (.int .i64 (poolH c h x size)) ∧ w'.cell? ⟨w6.heap.size, 2, none⟩ = some (.int .i64 (poolW c h x size)) ∧ w'.cell? ⟨w7.heap.size, 0, none⟩ = some (.int .i64 (poolC c h x size)) ∧ w'.cell? ⟨w7.heap.size, 1, none⟩ = some (.int .i64 (poolH c h x size)) ∧ w'.cell? ⟨w7.heap.size, 2, none⟩ = some (.int .i64 (poolW c h x size))) (exact ⟨XB0.2.1, XB0.2.2.1, XB0.2.2.2, XB1.2.1, XB1.2.2.1, XB1.2.2.2, XB2.2.1, XB2.2.2.1, XB2.2.2.2, XB3.2.1, XB3.2.2.1, XB3.2.2.2, XB4.2.1, XB4.2.2.1, XB4.2.2.2⟩) (first
    | (go_at_call 17; (with_reducible refine (right_any c h x _).mono ?_); rintro e wn ⟨rfl, hb⟩; have HBn : Hid (Below w.heap.size w _) := chain HBc.out hb; have Y0 := Box.below XB0 hb; have Y1 := Box.below XB1 hb; have Y2 := Box.below XB2 hb; have Y3 := Box.below XB3 hb; have Y4 := Box.below XB4 hb; clear HBc hb XB0 XB1 XB2 XB3 XB4; have HBc := Lib.hid HBn.out; have XB0 := Y0; have XB1 := Y1; have XB2 := Y2; have XB3 := Y3; have XB4 := Y4; clear HBn Y0 Y1 Y2 Y3 Y4)
    | (go_at_call 18; (with_reducible refine (rright_any c h x _).mono ?_); rintro e wn ⟨rfl, hb⟩; have HBn : Hid (Below w.heap.size w _) := chain HBc.out hb; have Y0 := Box.below XB0 hb; have Y1 := Box.below XB1 hb; have Y2 := Box.below XB2 hb; have Y3 := Box.below XB3 hb; have Y4 := Box.below XB4 hb; clear HBc hb XB0 XB1 XB2 XB3 XB4; have HBc := Lib.hid HBn.out; have XB0 := Y0; have XB1 := Y1; have XB2 := Y2; have XB3 := Y3; have XB4 := Y4; clear HBn Y0 Y1 Y2 Y3 Y4)
    | (go_at_call 19; (with_reducible refine (size_any c h x _).mono ?_); rintro e wn ⟨rfl, hb⟩; have HBn : Hid (Below w.heap.size w _) := chain HBc.out hb; have Y0 := Box.below XB0 hb; have Y1 := Box.below XB1 hb; have Y2 := Box.below XB2 hb; have Y3 := Box.below XB3 hb; have Y4 := Box.below XB4 hb; clear HBc hb XB0 XB1 XB2 XB3 XB4; have HBc := Lib.hid HBn.out; have XB0 := Y0; have XB1 := Y1; have XB2 := Y2; have XB3 := Y3; have XB4 := Y4; clear HBn Y0 Y1 Y2 Y3 Y4)
    | (go_at_call 20; (with_reducible refine (rsize_any c h x _).mono ?_); rintro e wn ⟨rfl, hb⟩; have HBn : Hid (Below w.heap.size w _) := chain HBc.out hb; have Y0 := Box.below XB0 hb; have Y1 := Box.below XB1 hb; have Y2 := Box.below XB2 hb; have Y3 := Box.below XB3 hb; have Y4 := Box.below XB4 hb; clear HBc hb XB0 XB1 XB2 XB3 XB4; have HBc := Lib.hid HBn.out; have XB0 := Y0; have XB1 := Y1; have XB2 := Y2; have XB3 := Y3; have XB4 := Y4; clear HBn Y0 Y1 Y2 Y3 Y4)
    | (go_at_call 21; (with_reducible refine (at_any c h x k y z _).mono ?_); rintro e wn ⟨rfl, hb⟩; have HBn : Hid (Below w.heap.size w _) := chain HBc.out hb; have Y0 := Box.below XB0 hb; have Y1 := Box.below XB1 hb; have Y2 := Box.below XB2 hb; have Y3 := Box.below XB3 hb; have Y4 := Box.below XB4 hb; clear HBc hb XB0 XB1 XB2 XB3 XB4; have HBc := Lib.hid HBn.out; have XB0 := Y0; have XB1 := Y1; have XB2 := Y2; have XB3 := Y3; have XB4 := Y4; clear HBn Y0 Y1 Y2 Y3 Y4)
    | (go_at_call 22; (with_reducible refine (rat_any c h x k y z _).mono ?_); rintro e wn ⟨rfl, hb⟩; have HBn : Hid (Below w.heap.size w _) := chain HBc.out hb; have Y0 := Box.below XB0 hb; have Y1 := Box.below XB1 hb; have Y2 := Box.below XB2 hb; have Y3 := Box.below XB3 hb; have Y4 := Box.below XB4 hb; clear HBc hb XB0 XB1 XB2 XB3 XB4; have HBc := Lib.hid HBn.out; have XB0 := Y0; have XB1 := Y1; have XB2 := Y2; have XB3 := Y3; have XB4 := Y4; clear HBn Y0 Y1 Y2 Y3 Y4)
    | fail)
  go_wp2_with fail
  go_ret
  exact ⟨rfl, HBc.out⟩

end Go.Proofs.Ytemkloomigijjaa
