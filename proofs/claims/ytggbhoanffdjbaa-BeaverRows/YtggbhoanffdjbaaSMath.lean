/-
  Numbers of 64 bits, shifted and laid upon one another: apart from any program.
-/
import Derived.Test.YtggbhoanffdjbaaSInv
import Derived.Laws.Bits64
import Derived.Laws.Bits64b
namespace Go.Proofs.Ytggbhoanffdjbaa
open Go.RowKit

/-- Down by so many bits. -/
def shr (k : Nat) (z : UInt64) : UInt64 := ⟨z.toBitVec >>> k⟩
/-- z, with itself so many bits down laid upon it. -/
def mixU (k : Nat) (z : UInt64) : UInt64 := z ^^^ shr k z
/-- Its way back, where three times as many bits are all. -/
def bakU (k : Nat) (z : UInt64) : UInt64 := z ^^^ shr k z ^^^ shr (2 * k) z
theorem shr_xor (k : Nat) (x y : UInt64) : shr k (x ^^^ y) = shr k x ^^^ shr k y := by
  apply UInt64.toBitVec_inj.1
  show (x.toBitVec ^^^ y.toBitVec) >>> k = (x.toBitVec >>> k) ^^^ (y.toBitVec >>> k)
  exact BitVec.ushiftRight_xor_distrib _ _ _
theorem shr_add (k l : Nat) (x : UInt64) : shr k (shr l x) = shr (k + l) x := by
  apply UInt64.toBitVec_inj.1
  show (x.toBitVec >>> l) >>> k = x.toBitVec >>> (k + l)
  rw [Nat.add_comm k l, BitVec.shiftRight_add]
theorem shr_all {k : Nat} (h : 64 ≤ k) (x : UInt64) : shr k x = 0 := by
  apply UInt64.toBitVec_inj.1
  show x.toBitVec >>> k = 0#64
  apply BitVec.eq_of_getLsbD_eq
  intro i hi
  rw [BitVec.getLsbD_ushiftRight]
  simp [BitVec.getLsbD_of_ge _ _ (show 64 ≤ k + i by omega)]
theorem bak_mix {k : Nat} (h : 64 ≤ 3 * k) (y : UInt64) : bakU k (mixU k y) = y := by
  unfold bakU mixU
  rw [shr_xor, shr_xor, shr_add, shr_add, show k + k = 2 * k by omega, show 2 * k + k = 3 * k by omega, shr_all h]
  generalize shr k y = a
  generalize shr (2 * k) y = b
  have e1 : ∀ p q r : UInt64, p ^^^ q ^^^ r = p ^^^ (q ^^^ r) := UInt64.xor_assoc
  have e2 : ∀ p : UInt64, p ^^^ p = 0 := fun p => UInt64.xor_self
  have e3 : ∀ p : UInt64, p ^^^ 0 = p := fun p => UInt64.xor_zero
  have e4 : ∀ p : UInt64, 0 ^^^ p = p := fun p => UInt64.zero_xor
  rw [e3, e1 y a, ← e1 a a b, e2, e4, e1, e2, e3]
theorem mix_bak {k : Nat} (h : 64 ≤ 3 * k) (z : UInt64) : mixU k (bakU k z) = z := by
  unfold bakU mixU
  rw [shr_xor, shr_xor, shr_add, shr_add, show k + k = 2 * k by omega, show k + 2 * k = 3 * k by omega, shr_all h]
  generalize shr k z = a
  generalize shr (2 * k) z = b
  have e1 : ∀ p q r : UInt64, p ^^^ q ^^^ r = p ^^^ (q ^^^ r) := UInt64.xor_assoc
  have e2 : ∀ p : UInt64, p ^^^ p = 0 := fun p => UInt64.xor_self
  have e3 : ∀ p : UInt64, p ^^^ 0 = p := fun p => UInt64.xor_zero
  rw [e3, e1 z a b, e1, e2, e3]

/-! ### What the machine's words make of them -/
theorem uz_xor (x y : UInt64) : bits .xor .u64 (uz x) (uz y) = uz (x ^^^ y) :=
  (bits_xor_u64_nat _ _ x.toNat_lt y.toNat_lt).trans (by unfold uz; rw [UInt64.toNat_xor])
theorem uz_and (x y : UInt64) : bits .and .u64 (uz x) (uz y) = uz (x &&& y) :=
  (bits_and_u64_nat _ _ x.toNat_lt y.toNat_lt).trans (by unfold uz; rw [UInt64.toNat_and])
theorem uz_or (x y : UInt64) : bits .or .u64 (uz x) (uz y) = uz (x ||| y) :=
  (bits_or_u64_nat _ _ x.toNat_lt y.toNat_lt).trans (by unfold uz; rw [UInt64.toNat_or])
theorem uz_shr {k : Nat} (x : UInt64) : uz x / 2 ^ k = uz (shr k x) := by
  unfold uz shr
  show (x.toNat : Int) / 2 ^ k = ((x.toBitVec >>> k).toNat : Int)
  rw [BitVec.toNat_ushiftRight, Nat.shiftRight_eq_div_pow]
  simp
theorem uz_mix {k : Nat} (x : UInt64) : bits .xor .u64 (uz x) (uz x / 2 ^ k) = uz (mixU k x) := by
  rw [uz_shr, uz_xor]; rfl

/-! ### Bit by bit from above -/
def shl (k : Nat) (z : UInt64) : UInt64 := ⟨z.toBitVec <<< k⟩
/-- All bits from i on. -/
def topU (i : Nat) (y : UInt64) : UInt64 := ⟨(y.toBitVec >>> i) <<< i⟩
def bitU (i : Nat) (z : UInt64) : UInt64 := shr i z &&& 1
theorem uz_one : uz 1 = 1 := rfl
theorem top_all (y : UInt64) : topU 64 y = 0 := by
  apply UInt64.toBitVec_inj.1
  show (y.toBitVec >>> 64) <<< 64 = 0#64
  apply BitVec.eq_of_getLsbD_eq
  intro i hi
  rw [BitVec.getLsbD_shiftLeft]
  simp
theorem top_zero (y : UInt64) : topU 0 y = y := by
  apply UInt64.toBitVec_inj.1
  show (y.toBitVec >>> 0) <<< 0 = y.toBitVec
  simp
theorem top_bit (i j : Nat) (y : UInt64) : (topU i y).toBitVec.getLsbD j = (decide (i ≤ j) && y.toBitVec.getLsbD j) := by
  show ((y.toBitVec >>> i) <<< i).getLsbD j = _
  rw [BitVec.getLsbD_shiftLeft, BitVec.getLsbD_ushiftRight]
  by_cases h : i ≤ j
  · have e : i + (j - i) = j := by omega
    rw [e]
    by_cases h2 : j < 64
    · simp [h, h2, Nat.not_lt.2 h]
    · simp [BitVec.getLsbD_of_ge _ _ (show 64 ≤ j by omega)]
  · simp [h]
theorem shr_bit (i j : Nat) (y : UInt64) : (shr i y).toBitVec.getLsbD j = y.toBitVec.getLsbD (i + j) := by
  show (y.toBitVec >>> i).getLsbD j = _
  rw [BitVec.getLsbD_ushiftRight]
theorem one_bit (j : Nat) : (1 : UInt64).toBitVec.getLsbD j = decide (j = 0) := by
  show (1#64).getLsbD j = _
  rw [BitVec.getLsbD_one]; simp
theorem bit_bit (i j : Nat) (z : UInt64) : (bitU i z).toBitVec.getLsbD j = (decide (j = 0) && z.toBitVec.getLsbD i) := by
  show (shr i z &&& 1).toBitVec.getLsbD j = _
  rw [UInt64.toBitVec_and, BitVec.getLsbD_and, shr_bit, one_bit]
  by_cases h : j = 0
  · subst h; simp
  · simp [h]
theorem shl_bit (i j : Nat) (z : UInt64) : (shl i z).toBitVec.getLsbD j = (decide (j < 64) && decide (i ≤ j) && z.toBitVec.getLsbD (j - i)) := by
  show (z.toBitVec <<< i).getLsbD j = _
  rw [BitVec.getLsbD_shiftLeft]
  by_cases h : i ≤ j
  · simp [h, Nat.not_lt.2 h]
  · simp [h]
/-- With bit i laid to those above. -/
theorem top_next {i : Nat} (y b : UInt64) (hb : ∀ j, b.toBitVec.getLsbD j = (decide (j = 0) && y.toBitVec.getLsbD i)) : topU (i + 1) y ||| shl i b = topU i y := by
  apply UInt64.toBitVec_inj.1
  apply BitVec.eq_of_getLsbD_eq
  intro j hj
  rw [UInt64.toBitVec_or, BitVec.getLsbD_or, top_bit, top_bit, shl_bit, hb]
  by_cases h1 : i = j
  · subst h1; simp [hj]
  · by_cases h2 : i < j
    · have : ¬ j - i = 0 := by omega
      simp [this, show i + 1 ≤ j by omega, show i ≤ j by omega]
    · simp [show ¬ i + 1 ≤ j by omega, show ¬ i ≤ j by omega]
theorem mix_bit (k i : Nat) (y : UInt64) : (mixU k y).toBitVec.getLsbD i = (y.toBitVec.getLsbD i ^^ y.toBitVec.getLsbD (k + i)) := by
  show (y ^^^ shr k y).toBitVec.getLsbD i = _
  rw [UInt64.toBitVec_xor, BitVec.getLsbD_xor, shr_bit]
theorem back_low {k i : Nat} (hk : 1 ≤ k) (y : UInt64) : topU (i + 1) y ||| shl i (bitU i (mixU k y) ^^^ bitU (i + k) (topU (i + 1) y)) = topU i y := by
  refine top_next y _ fun j => ?_
  rw [UInt64.toBitVec_xor, BitVec.getLsbD_xor, bit_bit, bit_bit, mix_bit, top_bit, Nat.add_comm k i]
  by_cases h : j = 0
  · simp [h, show i + 1 ≤ i + k by omega]
  · simp [h]
theorem back_high {k i : Nat} (h : 64 ≤ i + k) (y : UInt64) : topU (i + 1) y ||| shl i (bitU i (mixU k y)) = topU i y := by
  refine top_next y _ fun j => ?_
  rw [bit_bit, mix_bit, BitVec.getLsbD_of_ge _ _ (show 64 ≤ k + i by omega)]
  simp
theorem uz_shl {k : Nat} (x : UInt64) : IntKind.u64.wrap (uz x * 2 ^ k) = uz (shl k x) := by
  rw [IntKind.wrap_u64]
  unfold uz shl
  show ((x.toNat : Int) * 2 ^ k) % _ = ((x.toBitVec <<< k).toNat : Int)
  rw [BitVec.toNat_shiftLeft, Nat.shiftLeft_eq]
  simp

/-! ### Numbers of a seed -/
def gU : UInt64 := 0x9e3779b97f4a7c15
def aU : UInt64 := 0xbf58476d1ce4e5b9
def bU : UInt64 := 0x94d049bb133111eb
def stepU (z : UInt64) : UInt64 := mixU 31 (mixU 27 (mixU 30 z * aU) * bU)
def unU (n : UInt64) : UInt64 := bakU 30 (bakU 27 (bakU 31 n * uinv bU) * uinv aU)
def numU (s i : UInt64) : UInt64 := stepU (s + (i + 1) * gU)
def whichU (s n : UInt64) : UInt64 := (unU n - s) * uinv gU - 1
theorem g_inv : gU * uinv gU = 1 := uinv_mul _ (by decide)
theorem a_inv : aU * uinv aU = 1 := uinv_mul _ (by decide)
theorem b_inv : bU * uinv bU = 1 := uinv_mul _ (by decide)
theorem times_back {x y : UInt64} (h : x * y = 1) (z : UInt64) : z * x * y = z := by
  rw [UInt64.mul_assoc, h, UInt64.mul_one]
theorem back_times {x y : UInt64} (h : x * y = 1) (z : UInt64) : z * y * x = z := by
  rw [UInt64.mul_assoc, UInt64.mul_comm y x, h, UInt64.mul_one]
theorem un_step (z : UInt64) : unU (stepU z) = z := by
  unfold unU stepU
  rw [bak_mix (by decide), times_back b_inv, bak_mix (by decide), times_back a_inv, bak_mix (by decide)]
theorem step_un (n : UInt64) : stepU (unU n) = n := by
  unfold unU stepU
  rw [mix_bak (by decide), back_times a_inv, mix_bak (by decide), back_times b_inv, mix_bak (by decide)]
theorem which_num (s i : UInt64) : whichU s (numU s i) = i := by
  unfold whichU numU
  rw [un_step]
  have := g_inv
  generalize uinv gU = q at *
  generalize gU = g at *
  grind
theorem num_which (s n : UInt64) : numU s (whichU s n) = n := by
  unfold whichU numU
  have : s + ((unU n - s) * uinv gU - 1 + 1) * gU = unU n := by
    have := g_inv
    generalize uinv gU = q at *
    generalize gU = g at *
    grind
  rw [this, step_un]
theorem num_inj {s i k : UInt64} (h : numU s i = numU s k) : i = k := by
  rw [← which_num s i, h, which_num]
theorem num_seed {s t i : UInt64} (h : numU s i = numU t i) : s = t := by
  unfold numU at h
  have := congrArg unU h
  rw [un_step, un_step] at this
  grind
theorem num_shift (s i k : UInt64) : numU (s + k * gU) i = numU s (i + k) := by
  unfold numU
  have : s + k * gU + (i + 1) * gU = s + (i + k + 1) * gU := by grind
  rw [this]
/-- A row of a seed's numbers. -/
def rowU (s f : UInt64) (m : Nat) : List UInt64 := (List.range m).map fun j => numU s (f + UInt64.ofNat j)
def rowN (s f : UInt64) (m : Int) : List UInt64 := if m ≤ 4096 then rowU s f m.toNat else []
theorem srow_len (s f : UInt64) (m : Nat) : (rowU s f m).length = m := by simp [rowU]
theorem srow_next (s f : UInt64) (m : Nat) : rowU s f (m + 1) = rowU s f m ++ [numU s (f + UInt64.ofNat m)] := by
  simp [rowU, List.range_succ]
theorem srow_get {s f : UInt64} {m j : Nat} (h : j < m) : (rowU s f m)[j]? = some (numU s (f + UInt64.ofNat j)) := by
  simp [rowU, h]
theorem srow_cut (s f : UInt64) (k m : Nat) : rowU s f (k + m) = rowU s f k ++ rowU s (f + UInt64.ofNat k) m := by
  unfold rowU
  rw [List.range_add, List.map_append, List.map_map]
  refine congrArg (fun l => List.map (fun j => numU s (f + UInt64.ofNat j)) (List.range k) ++ l) (List.map_congr_left fun j _ => ?_)
  rw [Function.comp, UInt64.ofNat_add, UInt64.add_assoc]
theorem srow_shift (s i k : UInt64) (m : Nat) : rowU (s + k * gU) i m = rowU s (i + k) m := by
  unfold rowU
  refine List.map_congr_left fun j _ => ?_
  rw [num_shift, UInt64.add_assoc, UInt64.add_comm (UInt64.ofNat j) k, ← UInt64.add_assoc]

end Go.Proofs.Ytggbhoanffdjbaa
