/-
  What package stream answers: Number, Back, Row.
-/
import Derived.Test.YtggbhoanffdjbaaSRef
import Derived.Test.YtggbhoanffdjbaaSFill
namespace Go.Proofs.Ytggbhoanffdjbaa
open Go.RowKit

/-- z, shifted by so many bits and laid upon itself, so often. -/
def mxN (k : Nat) (z : UInt64) : Nat → UInt64
  | 0 => z
  | n + 1 => mixU k (mxN k z n)
theorem mx_three {k : Nat} (h : 64 ≤ 3 * k) (z : UInt64) : mxN k z 3 = bakU k z := by
  show mixU k (mixU k (mixU k z)) = _
  unfold bakU
  have e1 : ∀ p q r : UInt64, p ^^^ q ^^^ r = p ^^^ (q ^^^ r) := UInt64.xor_assoc
  have e2 : ∀ p : UInt64, p ^^^ p = 0 := fun p => UInt64.xor_self
  have e3 : ∀ p : UInt64, p ^^^ 0 = p := fun p => UInt64.xor_zero
  have e4 : ∀ p : UInt64, 0 ^^^ p = p := fun p => UInt64.zero_xor
  have E : mixU k (mixU k z) = z ^^^ shr (2 * k) z := by
    unfold mixU
    rw [shr_xor, shr_add, show k + k = 2 * k by omega, e1 z, ← e1 (shr k z) (shr k z), e2, e4]
  rw [E]
  unfold mixU
  rw [shr_xor, shr_add, show k + 2 * k = 3 * k by omega, shr_all h, e3, e1, e1, UInt64.xor_comm (shr (2 * k) z)]

set_option maxHeartbeats 1000000 in
theorem smix9 (z : UInt64) (k n bt : Nat) (hk : k < 64) (hn : n ≤ 100) (w : World) (hT : CB w bt 3 (.int .i64 (n : Int))) : Calls Try.prog 63 #[.int .u64 (uz z), .int .u64 (k : Int), .pointer (some ⟨bt, 0, none⟩)] w fun e w' => e = .returned (.int .u64 (uz (mxN k z n))) ∧ Below w.heap.size w w' := by
  have k0 : (0 : Int) ≤ (k : Int) := by omega
  have k1 : (k : Int) < 64 := by omega
  have ct := hT.cell
  have lt := hT.lt
  clear hk hT
  go_enter Try.func63, Try.ntmps63
  go_wp2_with fail
  go_loop [0, 7] (fun x i => ∃ j : Nat, j ≤ n ∧ x = .int .u64 (uz (mxN k z j)) ∧ i = .int .i64 (j : Int)) (fun _ i => n - (intOf i).toNat)
  case atStart => exact ⟨0, Nat.zero_le _, rfl, rfl⟩
  case round =>
    obtain ⟨j, hj, rfl, rfl⟩ := hrel
    by_cases jn : j < n
    · have ji : (j : Int) < (n : Int) := by omega
      have h0 := uz_lo (mxN k z j); have h1 := uz_hi (mxN k z j)
      have E : Hid (bits .xor .u64 (uz (mxN k z j)) (uz (mxN k z j) / 2 ^ k) = uz (mxN k z (j + 1))) := by show _ = _; rw [uz_mix]; rfl
      go_wp2_with fail
      refine ⟨⟨j + 1, by omega, ?_, by go_num⟩, by simp [intOf]; omega⟩
      rw [E.out]
    · obtain rfl : j = n := by omega
      go_wp2_with fail
      go_ret
      exact ⟨rfl, Below.refl _ _⟩

set_option maxHeartbeats 1000000 in
theorem shifts9 (n : Nat) (w : World) : Calls Try.prog 56 #[.int .i64 (n : Int)] w fun e w' => ∃ bt : Nat, e = .returned (.func (.func 63) #[] #[.pointer (some ⟨bt, 0, none⟩)]) ∧ CB w' bt 3 (.int .i64 (n : Int)) ∧ Below w.heap.size w w' := by
  have hmf : ∀ (fn : Fn) (first cap : Array Value) (w : World), (Instr.makeFunc fn first cap).run Try.prog w = .ok (.func fn first cap) w := fun _ _ _ _ => rfl
  go_enter Try.func56, Try.ntmps56
  go_wp2_with fail
  go_ret
  exact ⟨w.heap.size, rfl, heap_alloc_new w _, chain_alloc (Below.refl _ w) _⟩

set_option maxHeartbeats 1000000 in
theorem sdiv9 (z x : UInt64) (hx : uz x % 2 = 1) (w : World) : Calls Try.prog 58 #[.int .u64 (uz z), .int .u64 (uz x)] w fun e w' => e = .returned (.int .u64 (uz (z * uinv x))) ∧ Below w.heap.size w w' := by
  have HX := Lib.hid hx
  have e1 := Lib.hid (uz_mul z (uinv x))
  clear hx
  go_enter Try.func58, Try.ntmps58
  go_wp2_with fail
  refine (inverse_odd x w HX.out).mono ?_
  rintro e w1 ⟨rfl, rfl⟩
  go_wp2_with fail
  go_ret
  exact ⟨by rw [e1.out]; rfl, Below.refl _ _⟩

set_option maxHeartbeats 2000000 in
theorem number9 (s i : UInt64) (w : World) : Calls Try.prog 30 #[.int .u64 (uz s), .int .u64 (uz i)] w fun e w' => e = .returned (.int .u64 (uz (numU s i))) ∧ Below w.heap.size w w' := by
  have e1 : IntKind.u64.wrap (uz i + 1) = uz (i + 1) := uz_add i 1
  have e2 : IntKind.u64.wrap (uz (i + 1) * 11400714819323198485) = uz ((i + 1) * gU) := by rw [← g_lit]; exact uz_mul _ _
  have e3 : IntKind.u64.wrap (uz s + uz ((i + 1) * gU)) = uz (s + (i + 1) * gU) := uz_add _ _
  obtain ⟨z, hz⟩ : ∃ z, z = s + (i + 1) * gU := ⟨_, rfl⟩
  rw [← hz] at e3
  obtain ⟨y, hy⟩ : ∃ y, y = mixU 30 z * aU := ⟨_, rfl⟩
  obtain ⟨x, hx⟩ : ∃ x, x = mixU 27 y * bU := ⟨_, rfl⟩
  have e4 : IntKind.u64.wrap (uz (mixU 30 z) * 13787848793156543929) = uz y := by rw [hy, ← a_lit]; exact uz_mul _ _
  have e5 : IntKind.u64.wrap (uz (mixU 27 y) * 10723151780598845931) = uz x := by rw [hx, ← b_lit]; exact uz_mul _ _
  have HN : Hid (numU s i = mixU 31 x) := by show _ = _; rw [hx, hy, hz]; rfl
  have MX : Hid (∀ (u : UInt64) (k bt : Nat) w, k < 64 → CB w bt 3 (.int .i64 1) → Calls Try.prog 63 #[.int .u64 (uz u), .int .u64 (k : Int), .pointer (some ⟨bt, 0, none⟩)] w fun e w' => e = .returned (.int .u64 (uz (mixU k u))) ∧ Below w.heap.size w w') := fun u k bt w hk hT => smix9 u k 1 bt hk (by decide) w hT
  clear hx hy hz
  go_enter Try.func30, Try.ntmps30
  go_wp2_with fail
  refine (shifts9 1 _).mono ?_
  rintro e w0 ⟨bt, rfl, hT, hb⟩
  have B0 := Lib.hid hb
  have T0 := Lib.hid hT
  clear hb hT
  go_wp2_with fail
  refine (MX.out z 30 bt _ (by decide) T0.out).mono ?_
  rintro e w1 ⟨rfl, hb⟩
  have B1 := Lib.hid (chain B0.out hb)
  have T1 := Lib.hid (T0.out.below hb)
  clear hb
  go_wp2_with fail
  refine (MX.out y 27 bt _ (by decide) T1.out).mono ?_
  rintro e w2 ⟨rfl, hb⟩
  have B2 := Lib.hid (chain B1.out hb)
  have T2 := Lib.hid (T1.out.below hb)
  clear hb
  go_wp2_with fail
  refine (MX.out x 31 bt _ (by decide) T2.out).mono ?_
  rintro e w3 ⟨rfl, hb⟩
  have B3 := Lib.hid (chain B2.out hb)
  clear hb
  go_wp2_with fail
  go_ret
  exact ⟨by rw [HN.out]; rfl, B3.out⟩

set_option maxHeartbeats 2000000 in
theorem which9 (s n : UInt64) (w : World) : Calls Try.prog 32 #[.int .u64 (uz s), .int .u64 (uz n)] w fun e w' => e = .returned (.int .u64 (uz (whichU s n))) ∧ Below w.heap.size w w' := by
  obtain ⟨y, hy⟩ : ∃ y, y = bakU 31 n * uinv bU := ⟨_, rfl⟩
  obtain ⟨x, hx⟩ : ∃ x, x = bakU 27 y * uinv aU := ⟨_, rfl⟩
  obtain ⟨z, hz⟩ : ∃ z, z = bakU 30 x := ⟨_, rfl⟩
  have e3 : IntKind.u64.wrap (uz z - uz s) = uz (z - s) := uz_sub _ _
  obtain ⟨q, hq⟩ : ∃ q, q = (z - s) * uinv gU := ⟨_, rfl⟩
  have e5 : IntKind.u64.wrap (uz q - 1) = uz (q - 1) := uz_sub _ 1
  have HW : Hid (whichU s n = q - 1) := by show _ = _; rw [hq, hz, hx, hy]; rfl
  have DB : Hid (∀ w, Calls Try.prog 58 #[.int .u64 (uz (bakU 31 n)), .int .u64 10723151780598845931] w fun e w' => e = .returned (.int .u64 (uz y)) ∧ Below w.heap.size w w') := fun w => by rw [hy]; exact sdiv9 _ bU (by decide) w
  have DA : Hid (∀ w, Calls Try.prog 58 #[.int .u64 (uz (bakU 27 y)), .int .u64 13787848793156543929] w fun e w' => e = .returned (.int .u64 (uz x)) ∧ Below w.heap.size w w') := fun w => by rw [hx]; exact sdiv9 _ aU (by decide) w
  have DG : Hid (∀ w, Calls Try.prog 58 #[.int .u64 (uz (z - s)), .int .u64 11400714819323198485] w fun e w' => e = .returned (.int .u64 (uz q)) ∧ Below w.heap.size w w') := fun w => by rw [hq]; exact sdiv9 _ gU (by decide) w
  have MX : Hid (∀ (u : UInt64) (k bt : Nat) w, k < 64 → 64 ≤ 3 * k → CB w bt 3 (.int .i64 3) → Calls Try.prog 63 #[.int .u64 (uz u), .int .u64 (k : Int), .pointer (some ⟨bt, 0, none⟩)] w fun e w' => e = .returned (.int .u64 (uz (bakU k u))) ∧ Below w.heap.size w w') := fun u k bt w hk h3 hT => by rw [← mx_three h3]; exact smix9 u k 3 bt hk (by decide) w hT
  have HZZ := Lib.hid hz
  clear hy hx hz hq
  go_enter Try.func32, Try.ntmps32
  go_wp2_with fail
  refine (shifts9 3 _).mono ?_
  rintro e w0 ⟨bt, rfl, hT, hb⟩
  have B0 := Lib.hid hb
  have T0 := Lib.hid hT
  clear hb hT
  go_wp2_with fail
  refine (MX.out n 31 bt _ (by decide) (by decide) T0.out).mono ?_
  rintro e w1 ⟨rfl, hb⟩
  have B1 := Lib.hid (chain B0.out hb)
  have T1 := Lib.hid (T0.out.below hb)
  clear hb
  go_wp2_with fail
  refine (DB.out _).mono ?_
  rintro e w2 ⟨rfl, hb⟩
  have B2 := Lib.hid (chain B1.out hb)
  have T2 := Lib.hid (T1.out.below hb)
  clear hb
  go_wp2_with fail
  refine (MX.out y 27 bt _ (by decide) (by decide) T2.out).mono ?_
  rintro e w3 ⟨rfl, hb⟩
  have B3 := Lib.hid (chain B2.out hb)
  have T3 := Lib.hid (T2.out.below hb)
  clear hb
  go_wp2_with fail
  refine (DA.out _).mono ?_
  rintro e w4 ⟨rfl, hb⟩
  have B4 := Lib.hid (chain B3.out hb)
  have T4 := Lib.hid (T3.out.below hb)
  clear hb
  go_wp2_with fail
  refine (MX.out x 30 bt _ (by decide) (by decide) T4.out).mono ?_
  rintro e w5 ⟨rfl, hb⟩
  rw [← HZZ.out]
  have B5 := Lib.hid (chain B4.out hb)
  clear hb
  go_wp2_with fail
  refine (DG.out _).mono ?_
  rintro e w6 ⟨rfl, hb⟩
  have B6 := Lib.hid (chain B5.out hb)
  clear hb
  go_wp2_with fail
  go_ret
  exact ⟨by rw [HW.out]; rfl, B6.out⟩

set_option maxHeartbeats 4000000 in
set_option maxRecDepth 100000 in
theorem row9 (s f : UInt64) (m : Int) (w : World) : Calls Try.prog 34 #[.int .u64 (uz s), .int .u64 (uz f), .int .i64 m] w (RowTo ucells (rowN s f m) w) := by
  obtain ⟨i0, hi, hz0, hz1, hz2⟩ := info_parts Try.info23
  by_cases h0 : m < 1
  · have d : decide (m < 1) = true := decide_eq_true h0
    have E : Hid (rowN s f m = []) := by
      show _ = _
      unfold rowN rowU
      rw [if_pos (by omega), show m.toNat = 0 by omega]; rfl
    clear h0
    go_enter Try.func34, Try.ntmps34
    go_wp2_with fail
    go_ret
    exact ⟨none, 0, 0, rfl, by rw [E.out]; rfl, by rw [E.out]; exact Rg.nil _ _ _, Below.refl _ _, Nat.le_refl _, Nat.zero_le _⟩
  have d0 : decide (m < 1) = false := decide_eq_false h0
  by_cases h1 : 4096 < m
  · have d : decide (4096 < m) = true := decide_eq_true h1
    have E : Hid (rowN s f m = []) := if_neg (by omega)
    clear h0 h1
    go_enter Try.func34, Try.ntmps34
    go_wp2_with fail
    go_ret
    exact ⟨none, 0, 0, rfl, by rw [E.out]; rfl, by rw [E.out]; exact Rg.nil _ _ _, Below.refl _ _, Nat.le_refl _, Nat.zero_le _⟩
  obtain ⟨n, rfl⟩ : ∃ n : Nat, m = n := ⟨m.toNat, by omega⟩
  have d1 : decide (4096 < (n : Int)) = false := decide_eq_false h1
  have d2 : decide (4096 < n) = false := decide_eq_false (by omega)
  have d3 : decide (n < 1) = false := decide_eq_false (by omega)
  have n4 : n ≤ 4096 := by omega
  have E : Hid (rowN s f (n : Int) = rowU s f n) := by show _ = _; unfold rowN; rw [if_pos (by omega)]; rfl
  have hmk : ∀ w : World, (Instr.makeSlice 22 (.int .i64 (n : Int)) (.int .i64 (n : Int))).run Try.prog w = .ok (.slice (some ⟨w.heap.size, 0, none⟩) n n) (w.alloc (.cells (madeCells #[.int .u64 0] n) 23)) := fun w => by
    have := run_make (P := Try.prog) w 22 23 i0 _ Try.underlying22 hi hz0 .i64 .i64 (n : Int) (n : Int) (by omega) (Int.le_refl _) (by rw [hz2]; omega) (by omega)
    rw [hz1, Nat.mul_one] at this
    exact this
  clear h0 h1
  go_enter Try.func34, Try.ntmps34
  go_wp2_with fail
  obtain ⟨g, hg⟩ : ∃ g, g = w.heap.size := ⟨_, rfl⟩
  obtain ⟨W, hW⟩ : ∃ W, W = w.alloc (.cells (madeCells #[.int .u64 0] n) 23) := ⟨_, rfl⟩
  have F0 : Hid (SB9 W g n 0 (rowU s f n)) := by rw [hW, hg]; exact SB9.start w n _
  have B0 : Hid (Below w.heap.size w W) := by rw [hW]; exact (Below.refl _ w).alloc (Nat.le_refl _) _
  have gl : w.heap.size ≤ g := by omega
  rw [← hW, ← hg]
  clear hW hg
  go_loopg [8, 18] n (fun gh _ s19 wx => ∃ k : Nat, k ≤ n ∧ Hid (gh = n - k) ∧ s19 = .int .i64 (k : Int) ∧ Hid (SB9 wx g n k (rowU s f n)) ∧ Hid (Below w.heap.size w wx))
  case atStart => exact ⟨0, Nat.zero_le _, by show _ = _; omega, rfl, F0, B0⟩
  case round =>
    obtain ⟨k, hk, HG, rfl, FK, BK⟩ := hrel
    by_cases kn : k < n
    · have ki : (k : Int) < (n : Int) := by omega
      have ka : (0 : Int) ≤ (k : Int) := by omega
      obtain ⟨y, hy⟩ : ∃ y, y = f + UInt64.ofNat k := ⟨_, rfl⟩
      obtain ⟨x, hx⟩ : ∃ x, x = numU s y := ⟨_, rfl⟩
      have u1 := uz_conv k
      have u2 : IntKind.u64.wrap (uz f + uz (UInt64.ofNat k)) = uz y := by rw [hy]; exact uz_add _ _
      have GX : Hid ((rowU s f n)[k]? = some x) := by rw [hx, hy]; exact srow_get kn
      have KN : Hid (k < n) := kn
      have CN : Hid (∀ w, Calls Try.prog 30 #[.int .u64 (uz s), .int .u64 (uz y)] w fun e w' => e = .returned (.int .u64 (uz x)) ∧ Below w.heap.size w w') := fun w => by rw [hx]; exact number9 s y w
      clear hx hy
      go_wp2_with fail
      refine (CN.out _).mono ?_
      rintro e w2 ⟨rfl, hb⟩
      have F2 := Lib.hid (FK.out.below hb)
      have B2 := Lib.hid (chain BK.out hb)
      obtain ⟨⟨v, c0⟩, q0⟩ := F2.out.facts kn
      clear hb u1 u2 kn
      go_wp2_with fail
      have F3 := Lib.hid (F2.out.step KN.out GX.out)
      have B3 : Hid (Below w.heap.size w (w2.setCell ⟨g, k, none⟩ (.int .u64 (uz x)))) := B2.out.setCell (p := ⟨g, k, none⟩) gl _
      go_roundg (n - (k + 1))
      case measure => have := HG.out; have := KN.out; omega
      case rel => exact ⟨k + 1, by have := KN.out; omega, rfl, by go_num, F3, B3⟩
    · obtain rfl : k = n := by omega
      go_wp2_with fail
      go_ret
      exact ⟨some ⟨g, 0, none⟩, k, k, rfl, by rw [E.out, srow_len], by rw [E.out]; exact FK.out.done (srow_len s f k), BK.out, Nat.le_refl _, by unfold maxLen; omega⟩

end Go.Proofs.Ytggbhoanffdjbaa
