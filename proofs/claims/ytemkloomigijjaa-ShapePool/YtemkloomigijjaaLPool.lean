/-
  What ShapePool answers: true, whatever it is asked.
-/
import Derived.Test.YtemkloomigijjaaIs
namespace Go.Proofs.Ytemkloomigijjaa
open Go.RowKit

theorem shape_neq (a b c d e f : Int) (w : World) (r : Bool) (h : (a == d && (b == e && c == f)) = r) :
    (binOp .neq 23 (.agg #[.int .i64 a, .int .i64 b, .int .i64 c]) (.agg #[.int .i64 d, .int .i64 e, .int .i64 f])).run Try.prog w = .ok (.bool (!r)) w := by
  rw [← h]
  cases h1 : a == d <;> cases h2 : b == e <;> cases h3 : c == f <;> go_simp <;> simp_all

set_option maxHeartbeats 1000000 in
set_option maxRecDepth 100000 in
theorem pool_walk_wrong (c h x size : Int) (w : World) (r : rightB c h x = false) : Calls Try.prog 6 #[.agg #[.int .i64 c, .int .i64 h, .int .i64 x], .int .i64 size] w fun e w' => e = .returned (.bool true) ∧ Below w.heap.size w w' := by
  have n1 := poolB_no (size := size) (fun h => by rw [r] at h; cases h.1)
  have n2 := poolB_no (size := 1) (fun h => by rw [r] at h; cases h.1)
  have m1 := pool_none n1
  have m2 := pool_none n2
  have HP : Hid (poolC c h x size = 0 ∧ poolH c h x size = 0 ∧ poolW c h x size = 0 ∧ poolB c h x size = false) := ⟨m1.1, m1.2.1, m1.2.2, n1⟩
  have HO : Hid (poolC c h x 1 = 0 ∧ poolH c h x 1 = 0 ∧ poolW c h x 1 = 0 ∧ poolB c h x 1 = false) := ⟨m2.1, m2.2.1, m2.2.2, n2⟩
  have HR := Lib.hid r
  have q1 := fun w => shape_eq 0 0 0 0 0 0 w true (by decide)
  clear r n1 n2 m1 m2
  go_enter Try.func6, Try.ntmps6
  go_wp2_with fail
  refine (head_any _).mono ?_
  rintro e w1 ⟨rfl, hb1⟩
  have HB1 : Hid (Below w.heap.size w w1) := chain (by repeat first | exact Below.refl _ _ | refine chain_alloc ?_ _) hb1
  have X1_0 : Box w1 (w.heap.size) c h x := Box.below (by repeat first | exact Box.new _ _ _ _ | refine Box.alloc ?_ _) hb1
  clear hb1
  obtain ⟨l1_0, c1_0, d1_0, f1_0⟩ := id X1_0
  go_wp2_with fail
  refine (pool_to c h x size 0 0 0 false HP.out _).mono ?_
  rintro e w2 ⟨rfl, hb2⟩
  have HB2 : Hid (Below w.heap.size w w2) := chain (by repeat first | exact HB1.out | exact Below.refl _ _ | refine chain_alloc ?_ _) hb2
  have X2_0 : Box w2 (w.heap.size) c h x := Box.below (by repeat first | exact X1_0 | exact Box.new _ _ _ _ | refine Box.alloc ?_ _) hb2
  clear hb2 l1_0 c1_0 d1_0 f1_0 HB1 X1_0
  obtain ⟨l2_0, c2_0, d2_0, f2_0⟩ := id X2_0
  go_wp2_with fail
  refine (pool_to c h x 1 0 0 0 false HO.out _).mono ?_
  rintro e w3 ⟨rfl, hb3⟩
  have HB3 : Hid (Below w.heap.size w w3) := chain (by repeat first | exact HB2.out | exact Below.refl _ _ | refine chain_alloc ?_ _) hb3
  have X3_0 : Box w3 (w.heap.size) c h x := Box.below (by repeat first | exact X2_0 | exact Box.new _ _ _ _ | refine Box.alloc ?_ _) hb3
  have X3_1 : Box w3 (w2.heap.size) 0 0 0 := Box.below (by repeat first | exact Box.new _ _ _ _ | refine Box.alloc ?_ _) hb3
  clear hb3 l2_0 c2_0 d2_0 f2_0 HB2 X2_0
  obtain ⟨l3_0, c3_0, d3_0, f3_0⟩ := id X3_0
  obtain ⟨l3_1, c3_1, d3_1, f3_1⟩ := id X3_1
  go_wp2_with fail
  refine (right_is c h x false HR.out _).mono ?_
  rintro e w4 ⟨rfl, hb4⟩
  have HB4 : Hid (Below w.heap.size w w4) := chain (by repeat first | exact HB3.out | exact Below.refl _ _ | refine chain_alloc ?_ _) hb4
  have X4_0 : Box w4 (w.heap.size) c h x := Box.below (by repeat first | exact X3_0 | exact Box.new _ _ _ _ | refine Box.alloc ?_ _) hb4
  have X4_1 : Box w4 (w2.heap.size) 0 0 0 := Box.below (by repeat first | exact X3_1 | exact Box.new _ _ _ _ | refine Box.alloc ?_ _) hb4
  have X4_2 : Box w4 (w3.heap.size) 0 0 0 := Box.below (by repeat first | exact Box.new _ _ _ _ | refine Box.alloc ?_ _) hb4
  clear hb4 l3_0 c3_0 d3_0 f3_0 l3_1 c3_1 d3_1 f3_1 HB3 X3_0 X3_1
  obtain ⟨l4_0, c4_0, d4_0, f4_0⟩ := id X4_0
  obtain ⟨l4_1, c4_1, d4_1, f4_1⟩ := id X4_1
  obtain ⟨l4_2, c4_2, d4_2, f4_2⟩ := id X4_2
  go_wp2_with fail
  go_ret
  exact ⟨rfl, by repeat first | exact HB4.out | refine chain_alloc ?_ _⟩

theorem pool_one {c h x : Int} (r : rightB c h x = true) : poolC c h x 1 = c ∧ poolH c h x 1 = h ∧ poolW c h x 1 = x ∧ poolB c h x 1 = true := by
  have f : poolB c h x 1 = true := poolB_yes ⟨r, by omega, by simp [Int.emod_one], by simp [Int.emod_one]⟩
  have k := pool_is f
  exact ⟨k.1, k.2.1.trans (Int.ediv_one h), k.2.2.trans (Int.ediv_one x), f⟩

set_option maxHeartbeats 1000000 in
set_option maxRecDepth 100000 in
theorem pool_walk_none (c h x size : Int) (w : World) (r : rightB c h x = true) (n1 : poolB c h x size = false) : Calls Try.prog 6 #[.agg #[.int .i64 c, .int .i64 h, .int .i64 x], .int .i64 size] w fun e w' => e = .returned (.bool true) ∧ Below w.heap.size w w' := by
  have m1 := pool_none n1
  have HP : Hid (poolC c h x size = 0 ∧ poolH c h x size = 0 ∧ poolW c h x size = 0 ∧ poolB c h x size = false) := ⟨m1.1, m1.2.1, m1.2.2, n1⟩
  have HO := Lib.hid (pool_one r)
  have HR := Lib.hid r
  have q1 := fun w => shape_eq 0 0 0 0 0 0 w true (by decide)
  have q2 := fun w => shape_neq c h x c h x w true (by simp)
  clear r n1 m1
  go_enter Try.func6, Try.ntmps6
  go_wp2_with fail
  refine (head_any _).mono ?_
  rintro e w1 ⟨rfl, hb1⟩
  have HB1 : Hid (Below w.heap.size w w1) := chain (by repeat first | exact Below.refl _ _ | refine chain_alloc ?_ _) hb1
  have X1_0 : Box w1 (w.heap.size) c h x := Box.below (by repeat first | exact Box.new _ _ _ _ | refine Box.alloc ?_ _) hb1
  clear hb1
  obtain ⟨l1_0, c1_0, d1_0, f1_0⟩ := id X1_0
  go_wp2_with fail
  refine (pool_to c h x size 0 0 0 false HP.out _).mono ?_
  rintro e w2 ⟨rfl, hb2⟩
  have HB2 : Hid (Below w.heap.size w w2) := chain (by repeat first | exact HB1.out | exact Below.refl _ _ | refine chain_alloc ?_ _) hb2
  have X2_0 : Box w2 (w.heap.size) c h x := Box.below (by repeat first | exact X1_0 | exact Box.new _ _ _ _ | refine Box.alloc ?_ _) hb2
  clear hb2 l1_0 c1_0 d1_0 f1_0 HB1 X1_0
  obtain ⟨l2_0, c2_0, d2_0, f2_0⟩ := id X2_0
  go_wp2_with fail
  refine (pool_to c h x 1 c h x true HO.out _).mono ?_
  rintro e w3 ⟨rfl, hb3⟩
  have HB3 : Hid (Below w.heap.size w w3) := chain (by repeat first | exact HB2.out | exact Below.refl _ _ | refine chain_alloc ?_ _) hb3
  have X3_0 : Box w3 (w.heap.size) c h x := Box.below (by repeat first | exact X2_0 | exact Box.new _ _ _ _ | refine Box.alloc ?_ _) hb3
  have X3_1 : Box w3 (w2.heap.size) 0 0 0 := Box.below (by repeat first | exact Box.new _ _ _ _ | refine Box.alloc ?_ _) hb3
  clear hb3 l2_0 c2_0 d2_0 f2_0 HB2 X2_0
  obtain ⟨l3_0, c3_0, d3_0, f3_0⟩ := id X3_0
  obtain ⟨l3_1, c3_1, d3_1, f3_1⟩ := id X3_1
  go_wp2_with fail
  refine (right_is c h x true HR.out _).mono ?_
  rintro e w4 ⟨rfl, hb4⟩
  have HB4 : Hid (Below w.heap.size w w4) := chain (by repeat first | exact HB3.out | exact Below.refl _ _ | refine chain_alloc ?_ _) hb4
  have X4_0 : Box w4 (w.heap.size) c h x := Box.below (by repeat first | exact X3_0 | exact Box.new _ _ _ _ | refine Box.alloc ?_ _) hb4
  have X4_1 : Box w4 (w2.heap.size) 0 0 0 := Box.below (by repeat first | exact X3_1 | exact Box.new _ _ _ _ | refine Box.alloc ?_ _) hb4
  have X4_2 : Box w4 (w3.heap.size) c h x := Box.below (by repeat first | exact Box.new _ _ _ _ | refine Box.alloc ?_ _) hb4
  clear hb4 l3_0 c3_0 d3_0 f3_0 l3_1 c3_1 d3_1 f3_1 HB3 X3_0 X3_1
  obtain ⟨l4_0, c4_0, d4_0, f4_0⟩ := id X4_0
  obtain ⟨l4_1, c4_1, d4_1, f4_1⟩ := id X4_1
  obtain ⟨l4_2, c4_2, d4_2, f4_2⟩ := id X4_2
  go_wp2_with fail
  go_ret
  exact ⟨rfl, by repeat first | exact HB4.out | refine chain_alloc ?_ _⟩

set_option maxHeartbeats 2000000 in
set_option maxRecDepth 100000 in
theorem pool_walk_some (c h x size m n q p t : Int) (w : World) (hp : poolC c h x size = c ∧ poolH c h x size = m ∧ poolW c h x size = n ∧ poolB c h x size = true)
    (ho : poolC c h x 1 = c ∧ poolH c h x 1 = h ∧ poolW c h x 1 = x ∧ poolB c h x 1 = true) (r : rightB c h x = true) (ht : rightB c m n = true)
    (hq : sizeI c m n = q) (hs : sizeI c h x = p) (e1 : IntKind.i64.wrap (m * size) = h) (e2 : IntKind.i64.wrap (n * size) = x) (e3 : IntKind.i64.wrap (q * size) = t) (e4 : IntKind.i64.wrap (t * size) = p) : Calls Try.prog 6 #[.agg #[.int .i64 c, .int .i64 h, .int .i64 x], .int .i64 size] w fun e w' => e = .returned (.bool true) ∧ Below w.heap.size w w' := by
  have HP := Lib.hid hp; clear hp
  have HO := Lib.hid ho; clear ho
  have HR := Lib.hid r; clear r
  have HT := Lib.hid ht; clear ht
  have HQ := Lib.hid hq; clear hq
  have HS := Lib.hid hs; clear hs
  have q2 := fun w => shape_neq c h x c h x w true (by simp)
  go_enter Try.func6, Try.ntmps6
  go_wp2_with fail
  refine (head_any _).mono ?_
  rintro e w1 ⟨rfl, hb1⟩
  have HB1 : Hid (Below w.heap.size w w1) := chain (by repeat first | exact Below.refl _ _ | refine chain_alloc ?_ _) hb1
  have X1_0 : Box w1 (w.heap.size) c h x := Box.below (by repeat first | exact Box.new _ _ _ _ | refine Box.alloc ?_ _) hb1
  clear hb1
  obtain ⟨l1_0, c1_0, d1_0, f1_0⟩ := id X1_0
  go_wp2_with fail
  refine (pool_to c h x size c m n true HP.out _).mono ?_
  rintro e w2 ⟨rfl, hb2⟩
  have HB2 : Hid (Below w.heap.size w w2) := chain (by repeat first | exact HB1.out | exact Below.refl _ _ | refine chain_alloc ?_ _) hb2
  have X2_0 : Box w2 (w.heap.size) c h x := Box.below (by repeat first | exact X1_0 | exact Box.new _ _ _ _ | refine Box.alloc ?_ _) hb2
  clear hb2 l1_0 c1_0 d1_0 f1_0 HB1 X1_0
  obtain ⟨l2_0, c2_0, d2_0, f2_0⟩ := id X2_0
  go_wp2_with fail
  refine (pool_to c h x 1 c h x true HO.out _).mono ?_
  rintro e w3 ⟨rfl, hb3⟩
  have HB3 : Hid (Below w.heap.size w w3) := chain (by repeat first | exact HB2.out | exact Below.refl _ _ | refine chain_alloc ?_ _) hb3
  have X3_0 : Box w3 (w.heap.size) c h x := Box.below (by repeat first | exact X2_0 | exact Box.new _ _ _ _ | refine Box.alloc ?_ _) hb3
  have X3_1 : Box w3 (w2.heap.size) c m n := Box.below (by repeat first | exact Box.new _ _ _ _ | refine Box.alloc ?_ _) hb3
  clear hb3 l2_0 c2_0 d2_0 f2_0 HB2 X2_0
  obtain ⟨l3_0, c3_0, d3_0, f3_0⟩ := id X3_0
  obtain ⟨l3_1, c3_1, d3_1, f3_1⟩ := id X3_1
  go_wp2_with fail
  refine (right_is c h x true HR.out _).mono ?_
  rintro e w4 ⟨rfl, hb4⟩
  have HB4 : Hid (Below w.heap.size w w4) := chain (by repeat first | exact HB3.out | exact Below.refl _ _ | refine chain_alloc ?_ _) hb4
  have X4_0 : Box w4 (w.heap.size) c h x := Box.below (by repeat first | exact X3_0 | exact Box.new _ _ _ _ | refine Box.alloc ?_ _) hb4
  have X4_1 : Box w4 (w2.heap.size) c m n := Box.below (by repeat first | exact X3_1 | exact Box.new _ _ _ _ | refine Box.alloc ?_ _) hb4
  have X4_2 : Box w4 (w3.heap.size) c h x := Box.below (by repeat first | exact Box.new _ _ _ _ | refine Box.alloc ?_ _) hb4
  clear hb4 l3_0 c3_0 d3_0 f3_0 l3_1 c3_1 d3_1 f3_1 HB3 X3_0 X3_1
  obtain ⟨l4_0, c4_0, d4_0, f4_0⟩ := id X4_0
  obtain ⟨l4_1, c4_1, d4_1, f4_1⟩ := id X4_1
  obtain ⟨l4_2, c4_2, d4_2, f4_2⟩ := id X4_2
  go_wp2_with fail
  have HBc : Hid (Below w.heap.size w w4.drew) := Below.drew (by repeat first | exact HB4.out | refine chain_alloc ?_ _)
  have XB0 : Box w4.drew (w.heap.size) c h x := Box.drew (by repeat first | exact X4_0 | exact Box.new _ _ _ _ | refine Box.alloc ?_ _)
  have XB1 : Box w4.drew (w2.heap.size) c m n := Box.drew (by repeat first | exact X4_1 | exact Box.new _ _ _ _ | refine Box.alloc ?_ _)
  have XB2 : Box w4.drew (w3.heap.size) c h x := Box.drew (by repeat first | exact X4_2 | exact Box.new _ _ _ _ | refine Box.alloc ?_ _)
  clear HB4 X4_0 X4_1 X4_2 l4_0 c4_0 d4_0 f4_0 l4_1 c4_1 d4_1 f4_1 l4_2 c4_2 d4_2 f4_2
  go_region_held3 (fun w' => w'.cell? ⟨w.heap.size, 0, none⟩ = some (.int .i64 c) ∧ w'.cell? ⟨w.heap.size, 1, none⟩ = some (.int .i64 h) ∧ w'.cell? ⟨w.heap.size, 2, none⟩ = some (.int .i64 x) ∧ w'.cell? ⟨w2.heap.size, 0, none⟩ = some (.int .i64 c) ∧ w'.cell? ⟨w2.heap.size, 1, none⟩ = some (.int .i64 m) ∧ w'.cell? ⟨w2.heap.size, 2, none⟩ = some (.int .i64 n) ∧ w'.cell? ⟨w3.heap.size, 0, none⟩ = some (.int .i64 c) ∧ w'.cell? ⟨w3.heap.size, 1, none⟩ = some (.int .i64 h) ∧ w'.cell? ⟨w3.heap.size, 2, none⟩ = some (.int .i64 x)) (exact ⟨XB0.2.1, XB0.2.2.1, XB0.2.2.2, XB1.2.1, XB1.2.2.1, XB1.2.2.2, XB2.2.1, XB2.2.2.1, XB2.2.2.2⟩) (first
    | (go_at_call 17; (with_reducible refine (right_is c m n true HT.out _).mono ?_); rintro e wn ⟨rfl, hb⟩; have HBn : Hid (Below w.heap.size w _) := chain HBc.out hb; have Y0 := Box.below XB0 hb; have Y1 := Box.below XB1 hb; have Y2 := Box.below XB2 hb; clear HBc hb XB0 XB1 XB2; have HBc := Lib.hid HBn.out; have XB0 := Y0; have XB1 := Y1; have XB2 := Y2; clear HBn Y0 Y1 Y2)
    | (go_at_call 19; (with_reducible refine (size_is c m n q HQ.out _).mono ?_); rintro e wn ⟨rfl, hb⟩; have HBn : Hid (Below w.heap.size w _) := chain HBc.out hb; have Y0 := Box.below XB0 hb; have Y1 := Box.below XB1 hb; have Y2 := Box.below XB2 hb; clear HBc hb XB0 XB1 XB2; have HBc := Lib.hid HBn.out; have XB0 := Y0; have XB1 := Y1; have XB2 := Y2; clear HBn Y0 Y1 Y2)
    | (go_at_call 19; (with_reducible refine (size_is c h x p HS.out _).mono ?_); rintro e wn ⟨rfl, hb⟩; have HBn : Hid (Below w.heap.size w _) := chain HBc.out hb; have Y0 := Box.below XB0 hb; have Y1 := Box.below XB1 hb; have Y2 := Box.below XB2 hb; clear HBc hb XB0 XB1 XB2; have HBc := Lib.hid HBn.out; have XB0 := Y0; have XB1 := Y1; have XB2 := Y2; clear HBn Y0 Y1 Y2)
    | fail)
  go_wp2_with fail
  go_ret
  exact ⟨rfl, HBc.out⟩

theorem wrap_in {a : Int} (h0 : 0 ≤ a) (h1 : a ≤ 100000) : IntKind.i64.wrap a = a := by
  rw [IntKind.wrap_i64]; omega

theorem pool_walk (c h x size : Int) (w : World) : Calls Try.prog 6 #[.agg #[.int .i64 c, .int .i64 h, .int .i64 x], .int .i64 size] w fun e w' => e = .returned (.bool true) ∧ Below w.heap.size w w' := by
  cases r : rightB c h x
  · exact pool_walk_wrong c h x size w r
  cases f : poolB c h x size
  · exact pool_walk_none c h x size w r f
  obtain ⟨_, s1, m0, n0⟩ := poolB_out f
  have k := pool_is f
  obtain ⟨a1, a2, a3, a4, a5, a6, a7⟩ := rightB_out r
  have p0 := prod_small a1 a2 a3 a4 a5 a6
  have dh := Int.ediv_mul_cancel (Int.dvd_of_emod_eq_zero m0)
  have dx := Int.ediv_mul_cancel (Int.dvd_of_emod_eq_zero n0)
  have g1 : 1 ≤ h / size := by
    have : 0 ≤ h / size := Int.ediv_nonneg (by omega) (by omega)
    rcases (by omega : h / size = 0 ∨ 1 ≤ h / size) with e | e
    · rw [e, Int.zero_mul] at dh; omega
    · exact e
  have g2 : 1 ≤ x / size := by
    have : 0 ≤ x / size := Int.ediv_nonneg (by omega) (by omega)
    rcases (by omega : x / size = 0 ∨ 1 ≤ x / size) with e | e
    · rw [e, Int.zero_mul] at dx; omega
    · exact e
  have g3 : h / size ≤ h := Int.ediv_le_self _ (by omega)
  have g4 : x / size ≤ x := Int.ediv_le_self _ (by omega)
  have p1 := prod_small a1 a2 g1 (by omega) g2 (by omega)
  have big : c * (h / size) * (x / size) * size * size = c * h * x := by
    generalize h / size = m at *
    generalize x / size = n at *
    rw [← dh, ← dx]
    grind
  have u1 : c * (h / size) * (x / size) ≤ c * (h / size) * (x / size) * size := by
    have := Int.mul_le_mul_of_nonneg_left s1 (show 0 ≤ c * (h / size) * (x / size) by omega)
    omega
  have u2 : c * (h / size) * (x / size) * size ≤ c * (h / size) * (x / size) * size * size := by
    have := Int.mul_le_mul_of_nonneg_left s1 (show 0 ≤ c * (h / size) * (x / size) * size by omega)
    omega
  have r2 : rightB c (h / size) (x / size) = true := rightB_yes ⟨a1, a2, g1, by omega, g2, by omega, by omega⟩
  refine pool_walk_some c h x size _ _ _ _ _ w ⟨k.1, k.2.1, k.2.2, f⟩ (pool_one r) r r2 (sizeI_yes r2) (sizeI_yes r) ?_ ?_ (wrap_in (by omega) (by omega)) ?_
  · rw [dh]; exact wrap_in (by omega) (by omega)
  · rw [dx]; exact wrap_in (by omega) (by omega)
  · rw [wrap_in (by omega) (by omega), big]

end Go.Proofs.Ytemkloomigijjaa
