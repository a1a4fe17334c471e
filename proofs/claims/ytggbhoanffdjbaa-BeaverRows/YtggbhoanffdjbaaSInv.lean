/-
  Inverses of odd numbers that go round at 2^64; what both functions that seek them answer.
-/
import Derived.Test.YtggbhoanffdjbaaBase
import Derived.Deep.QuietTactic
import Derived.BigQuiet
import Derived.StillTailTactics
namespace Go.Proofs.Ytggbhoanffdjbaa
open Go.RowKit

def ustep (x y : UInt64) : UInt64 := y * (2 - x * y)
def uinv (x : UInt64) : UInt64 := ustep x (ustep x (ustep x (ustep x (ustep x x))))
theorem ustep_err (x y : UInt64) : 1 - x * ustep x y = (1 - x * y) * (1 - x * y) := by
  unfold ustep; grind
theorem odd_square (x : UInt64) (h : x % 2 = 1) : ∃ t : UInt64, 1 - x * x = 8 * t := by
  have h1 : x.toNat % 2 = 1 := by
    have := congrArg UInt64.toNat h
    simpa using this
  obtain ⟨m, hm⟩ : ∃ m, x.toNat = 2 * m + 1 := ⟨x.toNat / 2, by omega⟩
  obtain ⟨s, hs⟩ : ∃ s, m * (m + 1) = 2 * s := by
    rcases Nat.mod_two_eq_zero_or_one m with h0 | h0
    · exact ⟨(m / 2) * (m + 1), by
        have : m = 2 * (m / 2) := by omega
        rw [← Nat.mul_assoc, ← this]⟩
    · exact ⟨m * ((m + 1) / 2), by
        have : m + 1 = 2 * ((m + 1) / 2) := by omega
        rw [Nat.mul_left_comm, ← this]⟩
  refine ⟨0 - UInt64.ofNat s, ?_⟩
  have hx : x = UInt64.ofNat (2 * m + 1) := by rw [← hm]; simp
  have hx2 : x * x = 8 * UInt64.ofNat s + 1 := by
    rw [hx, ← UInt64.ofNat_mul]
    have : (2 * m + 1) * (2 * m + 1) = 8 * s + 1 := by
      have : (2 * m + 1) * (2 * m + 1) = 4 * (m * (m + 1)) + 1 := by grind
      omega
    rw [this, UInt64.ofNat_add, UInt64.ofNat_mul]
    rfl
  rw [hx2]
  grind
theorem uinv_mul (x : UInt64) (h : x % 2 = 1) : x * uinv x = 1 := by
  obtain ⟨t, ht⟩ := odd_square x h
  have h1 := ustep_err x x
  have h2 := ustep_err x (ustep x x)
  have h3 := ustep_err x (ustep x (ustep x x))
  have h4 := ustep_err x (ustep x (ustep x (ustep x x)))
  have h5 := ustep_err x (ustep x (ustep x (ustep x (ustep x x))))
  rw [ht] at h1
  rw [h1] at h2
  rw [h2] at h3
  rw [h3] at h4
  rw [h4] at h5
  have : 1 - x * uinv x = 0 := by
    unfold uinv; rw [h5]; grind
  grind
theorem uinv_only (x y z : UInt64) (h : x * y = 1) (k : x * z = 1) : y = z := by grind

theorem uz_odd {x : UInt64} : uz x % 2 = 1 ↔ x % 2 = 1 := by
  unfold uz
  rw [← UInt64.toNat_inj, UInt64.toNat_mod]
  have h2 : UInt64.toNat 2 = 2 := rfl
  have h1 : UInt64.toNat 1 = 1 := rfl
  rw [h1, h2]; omega
theorem uz_mul_mod (x y : UInt64) : uz (x * y) % 2 = (uz x % 2) * (uz y % 2) % 2 := by
  rw [← uz_mul, IntKind.wrap_u64, ← Int.mul_emod]; omega
theorem uz_step (x y : UInt64) : IntKind.u64.wrap (uz y * IntKind.u64.wrap (2 - IntKind.u64.wrap (uz x * uz y))) = uz (ustep x y) := by
  have h2 : (2 : Int) = uz 2 := rfl
  rw [uz_mul, h2, uz_sub, uz_mul]; rfl

/-- The k-th guess. -/
def guess (x : UInt64) : Nat → UInt64
  | 0 => x
  | k + 1 => ustep x (guess x k)

set_option maxHeartbeats 400000 in
theorem inverse_even (x : UInt64) (w : World) (hx : uz x % 2 = 0) :
    Calls Try.prog 14 #[.int .u64 (uz x)] w fun e w' => e = .returned (.tuple #[.int .u64 0, .bool false]) ∧ w = w' := by
  have h0 := uz_lo x
  go_enter Try.func14, Try.ntmps14
  go_wp2
  go_ret2
  exact ⟨rfl, rfl⟩

set_option maxHeartbeats 400000 in
theorem inverse_odd (x : UInt64) (w : World) (hx : uz x % 2 = 1) :
    Calls Try.prog 14 #[.int .u64 (uz x)] w fun e w' => e = .returned (.tuple #[.int .u64 (uz (uinv x)), .bool true]) ∧ w = w' := by
  have h0 := uz_lo x
  have hne : (uz x % 2 == 0) = false := by rw [hx]; rfl
  go_enter Try.func14, Try.ntmps14
  go_wp2_with fail
  clear hx h0
  go_loop [4, 9] (fun y i => ∃ (k : Nat) (t : UInt64), k ≤ 5 ∧ i = .int .i64 k ∧ y = .int .u64 (uz t) ∧ Hid (t = guess x k)) (fun _ i => 5 - (intOf i).toNat)
  case atStart => exact ⟨0, x, Nat.zero_le _, rfl, rfl, rfl⟩
  case round =>
    obtain ⟨k, t, hk, rfl, rfl, HT⟩ := hrel
    have HA := Lib.hid (uz_step x t)
    by_cases hlt : k < 5
    · go_wp2
      go_round
      case rel => exact ⟨k + 1, ustep x t, by omega, by go_num, congrArg (Value.int .u64) HA.out, by show _ = _; rw [HT.out]; rfl⟩
      case measure => simp [intOf]; omega
    · obtain rfl : k = 5 := by omega
      go_wp2
      go_ret2
      exact ⟨congrArg (fun u => Ending.returned (.tuple #[.int .u64 (uz u), .bool true])) HT.out, rfl⟩

/-- How far the search has come: the lowest k bits of the product are those of 1. -/
def Far (x : UInt64) (k : Nat) (y b : UInt64) : Prop := (k < 64 → b.toNat = 2 ^ k) ∧ (x * y).toNat % 2 ^ k = 1 % 2 ^ k

theorem far_zero (x : UInt64) : Far x 0 0 1 := ⟨fun _ => rfl, by simp⟩
theorem far_end {x y b : UInt64} (h : Far x 64 y b) : x * y = 1 := by
  have h2 := h.2
  have hlt := (x * y).toNat_lt
  rw [Nat.mod_eq_of_lt hlt] at h2
  exact UInt64.toNat_inj.1 h2

theorem bit_split (p k : Nat) : p % 2 ^ (k + 1) = p % 2 ^ k + 2 ^ k * (p / 2 ^ k % 2) := by
  rw [Nat.pow_succ, Nat.mod_mul]

/-- What bit k of 1 is. -/
def want (k : Nat) : Nat := if k = 0 then 1 else 0
theorem one_split (k : Nat) : 1 % 2 ^ (k + 1) = 1 % 2 ^ k + 2 ^ k * want k := by
  unfold want
  cases k with
  | zero => rfl
  | succ k =>
    have h1 : 1 < 2 ^ (k + 1) := Nat.one_lt_two_pow (by omega)
    have h2 : 1 < 2 ^ (k + 1 + 1) := Nat.one_lt_two_pow (by omega)
    rw [Nat.mod_eq_of_lt h1, Nat.mod_eq_of_lt h2]; simp

theorem bit_double {b : UInt64} {k : Nat} (hb : b.toNat = 2 ^ k) (hk : k + 1 < 64) : (b * 2).toNat = 2 ^ (k + 1) := by
  rw [UInt64.toNat_mul, hb]
  have h2 : UInt64.toNat 2 = 2 := rfl
  rw [h2, ← Nat.pow_succ, Nat.mod_eq_of_lt]
  exact Nat.pow_lt_pow_right (by omega) hk

theorem far_same {x y b : UInt64} {k : Nat} (h : Far x k y b) (hk : k < 64) (ht : (x * y).toNat / b.toNat % 2 = want k) : Far x (k + 1) y (b * 2) := by
  obtain ⟨h1, h2⟩ := h
  have hb := h1 hk
  refine ⟨fun hk' => bit_double hb hk', ?_⟩
  rw [hb] at ht
  rw [bit_split, ht, h2, ← one_split]

theorem far_more {x y b : UInt64} {k : Nat} (hx : x.toNat % 2 = 1) (h : Far x k y b) (hk : k < 64) (ht : (x * y).toNat / b.toNat % 2 ≠ want k) : Far x (k + 1) (y + b) (b * 2) := by
  obtain ⟨h1, h2⟩ := h
  have hb := h1 hk
  refine ⟨fun hk' => bit_double hb hk', ?_⟩
  rw [hb] at ht
  have hp : (x * (y + b)).toNat = ((x * y).toNat + x.toNat * 2 ^ k) % 2 ^ 64 := by
    rw [UInt64.mul_add, UInt64.toNat_add, UInt64.toNat_mul x b, hb]
    simp
  have hd : 2 ^ (k + 1) ∣ 2 ^ 64 := Nat.pow_dvd_pow 2 hk
  rw [hp, Nat.mod_mod_of_dvd _ hd, one_split, ← h2]
  obtain ⟨p, hpp⟩ : ∃ p, p = (x * y).toNat := ⟨_, rfl⟩
  rw [← hpp] at ht h2 ⊢
  obtain ⟨m, hm⟩ : ∃ m, x.toNat = 2 * m + 1 := ⟨x.toNat / 2, by omega⟩
  have e1 : p + x.toNat * 2 ^ k = (p + 2 ^ k) + 2 ^ (k + 1) * m := by
    rw [hm, Nat.pow_succ]; grind
  rw [e1, Nat.add_mul_mod_self_left, bit_split]
  have hpos : 0 < 2 ^ k := Nat.two_pow_pos k
  have e2 : (p + 2 ^ k) % 2 ^ k = p % 2 ^ k := by simp
  have e3 : (p + 2 ^ k) / 2 ^ k = p / 2 ^ k + 1 := Nat.add_div_right p hpos
  rw [e2, e3]
  have hw : want k = 0 ∨ want k = 1 := by unfold want; split <;> simp
  have : (p / 2 ^ k + 1) % 2 = want k := by omega
  rw [this]

theorem far_quo {x y b : UInt64} {k : Nat} (h : Far x k y b) (hk : k < 64) : uz b ≠ 0 := by
  have := h.1 hk
  unfold uz
  have := Nat.two_pow_pos k
  omega

theorem far_test (x t u : UInt64) : (IntKind.u64.wrap ((IntKind.u64.wrap (uz x * uz t)).tdiv (uz u))).tmod 2 = (((x * t).toNat / u.toNat % 2 : Nat) : Int) := by
  rw [uz_mul]
  have h1 : (uz (x * t)).tdiv (uz u) = (((x * t).toNat / u.toNat : Nat) : Int) := by
    unfold uz; exact (Int.ofNat_tdiv _ _).symm
  have h2 : (x * t).toNat / u.toNat < 18446744073709551616 := Nat.lt_of_le_of_lt (Nat.div_le_self _ _) (x * t).toNat_lt
  rw [h1, IntKind.wrap_u64]
  generalize (x * t).toNat / u.toNat = q at *
  rw [Int.emod_eq_of_lt (by omega) (by omega)]
  exact (Int.ofNat_tmod _ _).symm

set_option maxHeartbeats 400000 in
theorem rinverse_even (x : UInt64) (w : World) (hx : uz x % 2 = 0) :
    Calls Try.prog 15 #[.int .u64 (uz x)] w fun e w' => e = .returned (.tuple #[.int .u64 0, .bool false]) ∧ w = w' := by
  have h0 := uz_lo x
  go_enter Try.func15, Try.ntmps15
  go_wp2
  go_ret2
  exact ⟨rfl, rfl⟩

set_option maxHeartbeats 400000 in
theorem rinverse_odd (x : UInt64) (w : World) (hx : uz x % 2 = 1) :
    Calls Try.prog 15 #[.int .u64 (uz x)] w fun e w' => e = .returned (.tuple #[.int .u64 (uz (uinv x)), .bool true]) ∧ w = w' := by
  have h0 := uz_lo x
  have hne : (uz x % 2 == 0) = false := by rw [hx]; rfl
  have HX := Lib.hid hx
  go_enter Try.func15, Try.ntmps15
  go_wp2_with fail
  clear hx h0
  go_loop [4, 5, 6] (fun y b i => ∃ (k : Nat) (t u : UInt64), k ≤ 64 ∧ i = .int .i64 k ∧ y = .int .u64 (uz t) ∧ b = .int .u64 (uz u) ∧ Hid (Far x k t u)) (fun _ _ i => 64 - (intOf i).toNat)
  case atStart => exact ⟨0, 0, 1, Nat.zero_le _, rfl, rfl, rfl, far_zero x⟩
  case round =>
    obtain ⟨k, t, u, hk, rfl, rfl, rfl, HF⟩ := hrel
    by_cases hlt : k < 64
    · have hu : (uz u == 0) = false := beq_eq_false_iff_ne.2 (far_quo HF.out hlt)
      have hu' : ¬ uz u = 0 := far_quo HF.out hlt
      have HT := Lib.hid (far_test x t u)
      have HA := Lib.hid (uz_add t u)
      have HM : Hid (IntKind.u64.wrap (uz u * 2) = uz (u * 2)) := uz_mul u 2
      have hxn : x.toNat % 2 = 1 := by have := HX.out; unfold uz at this; omega
      have HXN := Lib.hid hxn; clear hxn
      by_cases hk0 : k = 0
      · have hb0 : ((k : Int) == 0) = true := by rw [hk0]; rfl
        have HW : Hid (want k = 1) := by show want k = 1; rw [hk0]; rfl
        clear hk0
        by_cases hd : (x * t).toNat / u.toNat % 2 = want k
        · have ht : ((IntKind.u64.wrap ((IntKind.u64.wrap (uz x * uz t)).tdiv (uz u))).tmod 2 != 1) = false := by rw [HT.out, hd, HW.out]; rfl
          have HF' := Lib.hid (far_same HF.out hlt hd)
          clear hd
          go_wp2_with fail
          go_round
          case rel => exact ⟨k + 1, t, u * 2, by omega, by go_num, rfl, congrArg (Value.int .u64) HM.out, HF'⟩
          case measure => simp [intOf]; omega
        · have ht : ((IntKind.u64.wrap ((IntKind.u64.wrap (uz x * uz t)).tdiv (uz u))).tmod 2 != 1) = true := by
            rw [HT.out]; rw [HW.out] at hd; rw [bne_iff_ne]; omega
          have HF' := Lib.hid (far_more HXN.out HF.out hlt hd)
          clear hd
          go_wp2_with fail
          go_round
          case rel => exact ⟨k + 1, t + u, u * 2, by omega, by go_num, congrArg (Value.int .u64) HA.out, congrArg (Value.int .u64) HM.out, HF'⟩
          case measure => simp [intOf]; omega
      · have hb0 : ((k : Int) == 0) = false := beq_eq_false_iff_ne.2 (by omega)
        have HW : Hid (want k = 0) := by show want k = 0; unfold want; rw [if_neg hk0]
        clear hk0
        by_cases hd : (x * t).toNat / u.toNat % 2 = want k
        · have ht : ((IntKind.u64.wrap ((IntKind.u64.wrap (uz x * uz t)).tdiv (uz u))).tmod 2 != 0) = false := by rw [HT.out, hd, HW.out]; rfl
          have HF' := Lib.hid (far_same HF.out hlt hd)
          clear hd
          go_wp2_with fail
          go_round
          case rel => exact ⟨k + 1, t, u * 2, by omega, by go_num, rfl, congrArg (Value.int .u64) HM.out, HF'⟩
          case measure => simp [intOf]; omega
        · have ht : ((IntKind.u64.wrap ((IntKind.u64.wrap (uz x * uz t)).tdiv (uz u))).tmod 2 != 0) = true := by
            rw [HT.out]; rw [HW.out] at hd; rw [bne_iff_ne]; omega
          have HF' := Lib.hid (far_more HXN.out HF.out hlt hd)
          clear hd
          go_wp2_with fail
          go_round
          case rel => exact ⟨k + 1, t + u, u * 2, by omega, by go_num, congrArg (Value.int .u64) HA.out, congrArg (Value.int .u64) HM.out, HF'⟩
          case measure => simp [intOf]; omega
    · obtain rfl : k = 64 := by omega
      have HE : Hid (t = uinv x) := uinv_only x t (uinv x) (far_end HF.out) (uinv_mul x (uz_odd.1 HX.out))
      go_wp2_with fail
      go_ret2
      exact ⟨congrArg (fun u => Ending.returned (.tuple #[.int .u64 (uz u), .bool true])) HE.out, rfl⟩

end Go.Proofs.Ytggbhoanffdjbaa
