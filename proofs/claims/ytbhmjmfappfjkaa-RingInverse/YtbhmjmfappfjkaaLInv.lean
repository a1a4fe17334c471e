/-
  What RingInverse answers: true, whatever two numbers it is asked.
-/
import Derived.Test.YtbhmjmfappfjkaaLaw
namespace Go.Proofs.Ytbhmjmfappfjkaa
open Go.RowKit

theorem inverse_odd_mul (x y : UInt64) (w : World) (hx : uz (x * y) % 2 = 1) :
    Calls Try.prog 12 #[.int .u64 (IntKind.u64.wrap (uz x * uz y))] w fun e w' => e = .returned (.tuple #[.int .u64 (uz (uinv (x * y))), .bool true]) ∧ w = w' := by
  rw [uz_mul]; exact inverse_odd (x * y) w hx
theorem inverse_even_mul (x y : UInt64) (w : World) (hx : uz (x * y) % 2 = 0) :
    Calls Try.prog 12 #[.int .u64 (IntKind.u64.wrap (uz x * uz y))] w fun e w' => e = .returned (.tuple #[.int .u64 0, .bool false]) ∧ w = w' := by
  rw [uz_mul]; exact inverse_even (x * y) w hx

set_option maxHeartbeats 1000000 in
set_option maxRecDepth 100000 in
theorem inverse_walk_odd (x y : UInt64) (w : World) (hx : uz x % 2 = 1) (hy : uz y % 2 = 1) :
    Calls Try.prog 8 #[.int .u64 (uz x), .int .u64 (uz y)] w fun e w' => e = .returned (.bool true) ∧ Below w.heap.size w w' := by
  have hxy : uz (x * y) % 2 = 1 := by rw [uz_mul_mod, hx, hy]; rfl
  obtain ⟨a, ha⟩ : ∃ a, a = uinv x := ⟨_, rfl⟩
  obtain ⟨b, hb⟩ : ∃ b, b = uinv y := ⟨_, rfl⟩
  obtain ⟨c, hc⟩ : ∃ c, c = uinv (x * y) := ⟨_, rfl⟩
  obtain ⟨d, hd⟩ : ∃ d, d = uinv a := ⟨_, rfl⟩
  have ma : x * a = 1 := by rw [ha]; exact uinv_mul x (uz_odd.1 hx)
  have mb : y * b = 1 := by rw [hb]; exact uinv_mul y (uz_odd.1 hy)
  have mc : x * y * c = 1 := by rw [hc]; exact uinv_mul (x * y) (uz_odd.1 hxy)
  have oa : uz a % 2 = 1 := by
    have h1 := uz_mul_mod x a
    rw [ma, hx] at h1
    have e1 : uz 1 % 2 = 1 := rfl
    rw [e1] at h1
    omega
  have md : a * d = 1 := by rw [hd]; exact uinv_mul a (uz_odd.1 oa)
  have c1 := inverse_odd x
  have c2 := inverse_odd y
  have c3 := inverse_odd_mul x y
  have c4 := inverse_odd a
  rw [← ha] at c1
  rw [← hb] at c2
  rw [← hc] at c3
  rw [← hd] at c4
  have C1 := Lib.hid (fun w => c1 w hx); clear c1
  have C2 := Lib.hid (fun w => c2 w hy); clear c2
  have C3 := Lib.hid (fun w => c3 w hxy); clear c3
  have C4 := Lib.hid (fun w => c4 w oa); clear c4
  have f1 : (IntKind.u64.wrap (uz a * uz x) == 1) = true := by
    rw [uz_mul, show a * x = 1 from by rw [UInt64.mul_comm]; exact ma]; rfl
  have f2 : (uz a % 2 == 1) = true := by rw [oa]; rfl
  have f3 : (uz c == IntKind.u64.wrap (uz a * uz b)) = true := by
    rw [uz_mul, uz_beq, beq_iff_eq]
    exact uinv_only (x * y) _ _ mc (by grind)
  have f4 : (uz d == uz x) = true := by
    rw [uz_beq, beq_iff_eq]
    exact uinv_only a _ _ md (by rw [UInt64.mul_comm]; exact ma)
  have g1 : (uz x % 2 == 1) = true := by rw [hx]; rfl
  have g2 : (uz y % 2 == 1) = true := by rw [hy]; rfl
  have l1 := uz_lo x
  have l2 := uz_lo y
  have l3 := uz_lo a
  clear ma mb mc md oa hxy hx hy ha hb hc hd
  go_enter Try.func8, Try.ntmps8
  go_wp2_with fail
  refine (head_any w).mono ?_
  rintro e w1 ⟨rfl, hb1⟩
  have HB1 := Lib.hid hb1; clear hb1
  go_wp2_with fail
  refine (C1.out w1).mono ?_
  rintro e w' ⟨rfl, rfl⟩
  go_wp2_with fail
  refine (C2.out w1).mono ?_
  rintro e w' ⟨rfl, rfl⟩
  go_wp2_with fail
  refine (C3.out w1).mono ?_
  rintro e w' ⟨rfl, rfl⟩
  go_wp2_with fail
  refine (C4.out w1).mono ?_
  rintro e w' ⟨rfl, rfl⟩
  go_wp2_with fail
  go_ret
  exact ⟨rfl, HB1.out⟩

set_option maxHeartbeats 1000000 in
set_option maxRecDepth 100000 in
theorem inverse_walk_first (x y : UInt64) (w : World) (hx : uz x % 2 = 1) (hy : uz y % 2 = 0) :
    Calls Try.prog 8 #[.int .u64 (uz x), .int .u64 (uz y)] w fun e w' => e = .returned (.bool true) ∧ Below w.heap.size w w' := by
  have hxy : uz (x * y) % 2 = 0 := by rw [uz_mul_mod, hx, hy]; rfl
  have C1 := Lib.hid (fun w => inverse_odd x w hx)
  have C2 := Lib.hid (fun w => inverse_even y w hy)
  have C3 := Lib.hid (fun w => inverse_even_mul x y w hxy)
  have g1 : (uz x % 2 == 1) = true := by rw [hx]; rfl
  have g2 : (uz y % 2 == 1) = false := by rw [hy]; rfl
  have l1 := uz_lo x
  have l2 := uz_lo y
  clear hxy hx hy
  go_enter Try.func8, Try.ntmps8
  go_wp2_with fail
  refine (head_any w).mono ?_
  rintro e w1 ⟨rfl, hb1⟩
  have HB1 := Lib.hid hb1; clear hb1
  go_wp2_with fail
  refine (C1.out w1).mono ?_
  rintro e w' ⟨rfl, rfl⟩
  go_wp2_with fail
  refine (C2.out w1).mono ?_
  rintro e w' ⟨rfl, rfl⟩
  go_wp2_with fail
  refine (C3.out w1).mono ?_
  rintro e w' ⟨rfl, rfl⟩
  go_wp2_with fail
  go_ret
  exact ⟨rfl, HB1.out⟩

set_option maxHeartbeats 1000000 in
set_option maxRecDepth 100000 in
theorem inverse_walk_second (x y : UInt64) (w : World) (hx : uz x % 2 = 0) (hy : uz y % 2 = 1) :
    Calls Try.prog 8 #[.int .u64 (uz x), .int .u64 (uz y)] w fun e w' => e = .returned (.bool true) ∧ Below w.heap.size w w' := by
  have hxy : uz (x * y) % 2 = 0 := by rw [uz_mul_mod, hx, hy]; rfl
  have C1 := Lib.hid (fun w => inverse_even x w hx)
  have C2 := Lib.hid (fun w => inverse_odd y w hy)
  have C3 := Lib.hid (fun w => inverse_even_mul x y w hxy)
  have g1 : (uz x % 2 == 1) = false := by rw [hx]; rfl
  have g2 : (uz y % 2 == 1) = true := by rw [hy]; rfl
  have l1 := uz_lo x
  have l2 := uz_lo y
  clear hxy hx hy
  go_enter Try.func8, Try.ntmps8
  go_wp2_with fail
  refine (head_any w).mono ?_
  rintro e w1 ⟨rfl, hb1⟩
  have HB1 := Lib.hid hb1; clear hb1
  go_wp2_with fail
  refine (C1.out w1).mono ?_
  rintro e w' ⟨rfl, rfl⟩
  go_wp2_with fail
  refine (C2.out w1).mono ?_
  rintro e w' ⟨rfl, rfl⟩
  go_wp2_with fail
  refine (C3.out w1).mono ?_
  rintro e w' ⟨rfl, rfl⟩
  go_wp2_with fail
  go_ret
  exact ⟨rfl, HB1.out⟩

set_option maxHeartbeats 1000000 in
set_option maxRecDepth 100000 in
theorem inverse_walk_even (x y : UInt64) (w : World) (hx : uz x % 2 = 0) (hy : uz y % 2 = 0) :
    Calls Try.prog 8 #[.int .u64 (uz x), .int .u64 (uz y)] w fun e w' => e = .returned (.bool true) ∧ Below w.heap.size w w' := by
  have hxy : uz (x * y) % 2 = 0 := by rw [uz_mul_mod, hx, hy]; rfl
  have C1 := Lib.hid (fun w => inverse_even x w hx)
  have C2 := Lib.hid (fun w => inverse_even y w hy)
  have C3 := Lib.hid (fun w => inverse_even_mul x y w hxy)
  have g1 : (uz x % 2 == 1) = false := by rw [hx]; rfl
  have g2 : (uz y % 2 == 1) = false := by rw [hy]; rfl
  have l1 := uz_lo x
  have l2 := uz_lo y
  clear hxy hx hy
  go_enter Try.func8, Try.ntmps8
  go_wp2_with fail
  refine (head_any w).mono ?_
  rintro e w1 ⟨rfl, hb1⟩
  have HB1 := Lib.hid hb1; clear hb1
  go_wp2_with fail
  refine (C1.out w1).mono ?_
  rintro e w' ⟨rfl, rfl⟩
  go_wp2_with fail
  refine (C2.out w1).mono ?_
  rintro e w' ⟨rfl, rfl⟩
  go_wp2_with fail
  refine (C3.out w1).mono ?_
  rintro e w' ⟨rfl, rfl⟩
  go_wp2_with fail
  go_ret
  exact ⟨rfl, HB1.out⟩

theorem inverse_walk (x y : UInt64) (w : World) :
    Calls Try.prog 8 #[.int .u64 (uz x), .int .u64 (uz y)] w fun e w' => e = .returned (.bool true) ∧ Below w.heap.size w w' := by
  rcases (by omega : uz x % 2 = 0 ∨ uz x % 2 = 1) with hx | hx <;> rcases (by omega : uz y % 2 = 0 ∨ uz y % 2 = 1) with hy | hy
  · exact inverse_walk_even x y w hx hy
  · exact inverse_walk_second x y w hx hy
  · exact inverse_walk_first x y w hx hy
  · exact inverse_walk_odd x y w hx hy

end Go.Proofs.Ytbhmjmfappfjkaa
