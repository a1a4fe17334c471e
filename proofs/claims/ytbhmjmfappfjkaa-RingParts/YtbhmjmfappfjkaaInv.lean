/-
  Inverses of odd numbers that go round at 2^64; what both functions that seek them answer.
-/
import Derived.Test.YtbhmjmfappfjkaaRing
namespace Go.Proofs.Ytbhmjmfappfjkaa
open Go.RowKit

def ustep (x y : UInt64) : UInt64 := y * (2 - x * y)
def uinv (x : UInt64) : UInt64 := ustep x (ustep x (ustep x (ustep x (ustep x x))))
theorem ustep_err (x y : UInt64) : 1 - x * ustep x y = (1 - x * y) * (1 - x * y) := by
  unfold ustep; grind
theorem odd_square (x : UInt64) (h : x % 2 = 1) : ∃ t : UInt64, 1 - x * x = 8 * t := by
  have h1 : x.toNat % 2 = 1 := by
    have := congrArg UInt64.toNat h
    simpa using this
  obtain ⟨m, hm⟩ : ∃ m, x.toNat = 2 * m + 1 := ⟨x.toNat / 2, by omega⟩
  obtain ⟨s, hs⟩ : ∃ s, m * (m + 1) = 2 * s := by
    rcases Nat.mod_two_eq_zero_or_one m with h0 | h0
    · exact ⟨(m / 2) * (m + 1), by
        have : m = 2 * (m / 2) := by omega
        rw [← Nat.mul_assoc, ← this]⟩
    · exact ⟨m * ((m + 1) / 2), by
        have : m + 1 = 2 * ((m + 1) / 2) := by omega
        rw [Nat.mul_left_comm, ← this]⟩
  refine ⟨0 - UInt64.ofNat s, ?_⟩
  have hx : x = UInt64.ofNat (2 * m + 1) := by rw [← hm]; simp
  have hx2 : x * x = 8 * UInt64.ofNat s + 1 := by
    rw [hx, ← UInt64.ofNat_mul]
    have : (2 * m + 1) * (2 * m + 1) = 8 * s + 1 := by
      have : (2 * m + 1) * (2 * m + 1) = 4 * (m * (m + 1)) + 1 := by grind
      omega
    rw [this, UInt64.ofNat_add, UInt64.ofNat_mul]
    rfl
  rw [hx2]
  grind
theorem uinv_mul (x : UInt64) (h : x % 2 = 1) : x * uinv x = 1 := by
  obtain ⟨t, ht⟩ := odd_square x h
  have h1 := ustep_err x x
  have h2 := ustep_err x (ustep x x)
  have h3 := ustep_err x (ustep x (ustep x x))
  have h4 := ustep_err x (ustep x (ustep x (ustep x x)))
  have h5 := ustep_err x (ustep x (ustep x (ustep x (ustep x x))))
  rw [ht] at h1
  rw [h1] at h2
  rw [h2] at h3
  rw [h3] at h4
  rw [h4] at h5
  have : 1 - x * uinv x = 0 := by
    unfold uinv; rw [h5]; grind
  grind
theorem uinv_only (x y z : UInt64) (h : x * y = 1) (k : x * z = 1) : y = z := by grind

theorem uz_odd {x : UInt64} : uz x % 2 = 1 ↔ x % 2 = 1 := by
  unfold uz
  rw [← UInt64.toNat_inj, UInt64.toNat_mod]
  have h2 : UInt64.toNat 2 = 2 := rfl
  have h1 : UInt64.toNat 1 = 1 := rfl
  rw [h1, h2]; omega
theorem uz_mul_mod (x y : UInt64) : uz (x * y) % 2 = (uz x % 2) * (uz y % 2) % 2 := by
  rw [← uz_mul, IntKind.wrap_u64, ← Int.mul_emod]; omega
theorem uz_step (x y : UInt64) : IntKind.u64.wrap (uz y * IntKind.u64.wrap (2 - IntKind.u64.wrap (uz x * uz y))) = uz (ustep x y) := by
  have h2 : (2 : Int) = uz 2 := rfl
  rw [uz_mul, h2, uz_sub, uz_mul]; rfl

/-- The k-th guess. -/
def guess (x : UInt64) : Nat → UInt64
  | 0 => x
  | k + 1 => ustep x (guess x k)

set_option maxHeartbeats 400000 in
theorem inverse_even (x : UInt64) (w : World) (hx : uz x % 2 = 0) :
    Calls Try.prog 12 #[.int .u64 (uz x)] w fun e w' => e = .returned (.tuple #[.int .u64 0, .bool false]) ∧ w = w' := by
  have h0 := uz_lo x
  go_enter Try.func12, Try.ntmps12
  go_wp2
  go_ret2
  exact ⟨rfl, rfl⟩

set_option maxHeartbeats 400000 in
theorem inverse_odd (x : UInt64) (w : World) (hx : uz x % 2 = 1) :
    Calls Try.prog 12 #[.int .u64 (uz x)] w fun e w' => e = .returned (.tuple #[.int .u64 (uz (uinv x)), .bool true]) ∧ w = w' := by
  have h0 := uz_lo x
  have hne : (uz x % 2 == 0) = false := by rw [hx]; rfl
  go_enter Try.func12, Try.ntmps12
  go_wp2_with fail
  clear hx h0
  go_loop [4, 9] (fun y i => ∃ (k : Nat) (t : UInt64), k ≤ 5 ∧ i = .int .i64 k ∧ y = .int .u64 (uz t) ∧ Hid (t = guess x k)) (fun _ i => 5 - (intOf i).toNat)
  case atStart => exact ⟨0, x, Nat.zero_le _, rfl, rfl, rfl⟩
  case round =>
    obtain ⟨k, t, hk, rfl, rfl, HT⟩ := hrel
    have HA := Lib.hid (uz_step x t)
    by_cases hlt : k < 5
    · go_wp2
      go_round
      case rel => exact ⟨k + 1, ustep x t, by omega, by go_num, congrArg (Value.int .u64) HA.out, by show _ = _; rw [HT.out]; rfl⟩
      case measure => simp [intOf]; omega
    · obtain rfl : k = 5 := by omega
      go_wp2
      go_ret2
      exact ⟨congrArg (fun u => Ending.returned (.tuple #[.int .u64 (uz u), .bool true])) HT.out, rfl⟩

end Go.Proofs.Ytbhmjmfappfjkaa
