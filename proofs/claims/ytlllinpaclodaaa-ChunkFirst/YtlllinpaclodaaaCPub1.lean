/-
  What package chunk answers: places of bytes, and numbers laid into bytes and read from them.
-/
import Derived.Test.YtlllinpaclodaaaCRef4
import Derived.Deep.LoopGhost
import Derived.Laws.Bits64
import Derived.Laws.Bits64b
namespace Go.Proofs.Ytlllinpaclodaaa
open Go.RowKit

set_option maxHeartbeats 400000 in
theorem upto14 (i : Nat) (w : World) (h : i ≤ 1000000) : Calls Try.prog 22 #[.int .i64 (i : Int)] w fun e w' => e = .returned (.int .i64 ((2 + 8 * i : Nat) : Int)) ∧ w' = w := by
  have e1 := Lib.hid (show (2 : Int) + 8 * (i : Int) = ((2 + 8 * i : Nat) : Int) by omega)
  go_enter Try.func22, Try.ntmps22
  go_wp2_with fail
  go_ret
  exact ⟨by rw [← e1.out]; rfl, rfl⟩

def standC (a : Int) (n : Nat) : Bool := decide (1 ≤ n) && decide (0 ≤ a) && decide (a + n ≤ 65536)
theorem stand_iff {a : Int} {n : Nat} : standC a n = true ↔ 1 ≤ n ∧ 0 ≤ a ∧ a + n ≤ 65536 := by simp [standC, and_assoc]
theorem stand_no {a : Int} {n : Nat} (h : ¬ (1 ≤ n ∧ 0 ≤ a ∧ a + n ≤ 65536)) : standC a n = false := by
  rw [Bool.eq_false_iff]; exact fun e => h (stand_iff.1 e)

set_option maxHeartbeats 1000000 in
theorem stand14 (a : Int) (n : Nat) (w : World) (h : n ≤ 1000000) (a0 : -9223372036854775808 ≤ a) (a1 : a ≤ 9223372036854775807) : Calls Try.prog 27 #[.int .i64 a, .int .i64 (n : Int)] w fun e w' => e = .returned (.bool (standC a n)) ∧ w' = w := by
  by_cases h0 : n = 0
  · subst h0
    have E := Lib.hid (stand_no (a := a) (n := 0) (by omega))
    go_enter Try.func27, Try.ntmps27
    go_wp2_with fail
    go_ret
    exact ⟨by rw [E.out]; rfl, rfl⟩
  have n0 : (0 : Int) < (n : Int) := by omega
  have n0' : 0 < n := by omega
  by_cases h1 : a < 0
  · have E := Lib.hid (stand_no (a := a) (n := n) (by omega))
    have d1 : decide (0 ≤ a) = false := decide_eq_false (by omega)
    go_enter Try.func27, Try.ntmps27
    go_wp2_with fail
    go_ret
    exact ⟨by rw [E.out]; rfl, rfl⟩
  have d1 : decide (0 ≤ a) = true := decide_eq_true (by omega)
  have ha : 0 ≤ a := by omega
  by_cases h2 : (n : Int) ≤ 65536 - a
  · have E := Lib.hid (stand_iff (a := a) (n := n) |>.2 ⟨by omega, by omega, by omega⟩)
    have d2 : decide ((n : Int) ≤ 65536 - a) = true := decide_eq_true h2
    go_enter Try.func27, Try.ntmps27
    go_wp2_with fail
    go_ret
    exact ⟨by rw [E.out]; rfl, rfl⟩
  · have E := Lib.hid (stand_no (a := a) (n := n) (by omega))
    have d2 : decide ((n : Int) ≤ 65536 - a) = false := decide_eq_false h2
    go_enter Try.func27, Try.ntmps27
    go_wp2_with fail
    go_ret
    exact ⟨by rw [E.out]; rfl, rfl⟩

set_option maxHeartbeats 1000000 in
theorem right14 (a : Int) (n : Nat) (w : World) (h : n ≤ 1000000) (a0 : -9223372036854775808 ≤ a) (a1 : a ≤ 9223372036854775807) : Calls Try.prog 24 #[.int .i64 a, .int .i64 (n : Int)] w fun e w' => e = .returned (.bool (okPut a n)) ∧ w' = w := by
  by_cases h6 : n ≤ 6
  · have d6 : decide ((n : Int) ≤ 6) = true := decide_eq_true (by omega)
    have d6' : decide (n ≤ 6) = true := decide_eq_true h6
    have E : Hid (standC a n = okPut a n) := by
      show _ = _
      rw [Bool.eq_iff_iff, stand_iff, ok_put]; omega
    go_enter Try.func24, Try.ntmps24
    go_wp2_with fail
    refine (stand14 a n _ h a0 a1).mono ?_
    rintro e w1 ⟨rfl, rfl⟩
    go_wp2_with fail
    go_ret
    exact ⟨by rw [E.out]; rfl, rfl⟩
  · have d6 : decide ((n : Int) ≤ 6) = false := decide_eq_false (by omega)
    have d6' : decide (n ≤ 6) = false := decide_eq_false h6
    have E := Lib.hid (ok_put_no (a := a) (n := n) (by omega))
    go_enter Try.func24, Try.ntmps24
    go_wp2_with fail
    go_ret
    exact ⟨by rw [E.out]; rfl, rfl⟩

/-- A number, eight bits further, and a byte. -/
theorem or_byte (x : UInt64) (y : UInt8) : bits .or .u64 (uz (x * 256)) (uz (UInt64.ofNat y.toNat)) = uz (x * 256 + UInt64.ofNat y.toNat) := by
  refine (bits_or_u64_nat _ _ (x * 256).toNat_lt (UInt64.ofNat y.toNat).toNat_lt).trans ?_
  unfold uz
  congr 1
  have hy := y.toNat_lt
  have e1 : (UInt64.ofNat y.toNat).toNat = y.toNat := by rw [UInt64.toNat_ofNat']; omega
  have e2 : (x * 256).toNat = (x.toNat % 2 ^ 56) <<< 8 := by
    rw [UInt64.toNat_mul, Nat.shiftLeft_eq]
    show x.toNat * 256 % 2 ^ 64 = _
    omega
  rw [UInt64.toNat_add, e1, e2, ← Nat.shiftLeft_add_eq_or_of_lt (by omega), ← e2]
  have := (x * 256).toNat_lt
  have : x.toNat % 2 ^ 56 < 2 ^ 56 := Nat.mod_lt _ (by decide)
  rw [e2, Nat.shiftLeft_eq]
  omega

set_option maxHeartbeats 2000000 in
theorem read14 (A : Option Addr) (cA n : Nat) (b : List UInt8) (w : World) (hx : Rg bcells w A b) (lx : n = b.length) (hn : n ≤ 8) :
    Calls Try.prog 23 #[.slice A n cA] w fun e w' => e = .returned (.int .u64 (uz (rdU b))) ∧ w' = w := by
  have HX := Lib.hid hx; have LX := Lib.hid lx
  clear hx lx
  go_enter Try.func23, Try.ntmps23
  go_wp2_with fail
  go_loopg [3, 8] n (fun gh s3 s8 wr => ∃ j : Nat, j ≤ n ∧ Hid (gh = n - j) ∧ s8 = .int .i64 (j : Int) ∧ s3 = .int .u64 (uz (rdU (b.take j))) ∧ wr = w)
  case atStart => exact ⟨0, by omega, by show _ = _; omega, rfl, rfl, rfl⟩
  case round =>
    obtain ⟨j, hj, HG, rfl, rfl, rfl⟩ := hrel
    by_cases jn : j < n
    · obtain ⟨y, gy⟩ : ∃ y, b[j]? = some y := ⟨_, List.getElem?_eq_getElem (by rw [← LX.out]; exact jn)⟩
      obtain ⟨b1, o1, rfl, l1, q1⟩ := HX.out (by rw [← LX.out]; omega)
      have c2 := b_cell q1 gy
      obtain ⟨x, hx⟩ : ∃ x, x = rdU (b.take j) := ⟨_, rfl⟩
      obtain ⟨z, hz⟩ : ∃ z, z = rdU (b.take (j + 1)) := ⟨_, rfl⟩
      have e0 : z = x * 256 + UInt64.ofNat y.toNat := by rw [hz, hx, take_get gy, rdU_snoc]
      have e1 : IntKind.u64.wrap (uz x * 256) = uz (x * 256) := uz_mul x 256
      obtain ⟨v, hv⟩ : ∃ v : UInt64, v = UInt64.ofNat y.toNat := ⟨_, rfl⟩
      have e2 : IntKind.u64.wrap (bz y) = uz v := by rw [hv]; exact bz_u64 y
      have e3 : bits .or .u64 (uz (x * 256)) (uz v) = uz z := by rw [hv, or_byte, e0]
      have HZ := Lib.hid hz
      rw [← hx]
      have y1 := bz_lo y
      have y2 := bz_hi y
      have jn' : (j : Int) < (n : Int) := by omega
      have j0 : (0 : Int) ≤ (j : Int) := by omega
      clear gy q1 hx hz e0 hv
      go_wp2_with fail
      go_roundg (n - (j + 1))
      case measure => have := HG.out; omega
      case rel => exact ⟨j + 1, by omega, rfl, by go_num, by rw [HZ.out], rfl⟩
    · obtain rfl : j = n := by omega
      have E : Hid (b.take j = b) := List.take_of_length_le (Nat.le_of_eq LX.out.symm)
      go_wp2_with fail
      go_ret
      exact ⟨by rw [E.out]; rfl, rfl⟩

end Go.Proofs.Ytlllinpaclodaaa
