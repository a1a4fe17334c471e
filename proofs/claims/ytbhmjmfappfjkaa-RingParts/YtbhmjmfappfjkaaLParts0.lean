/-
  What RingParts answers: true, whatever two rows and cut it is asked.
-/
import Derived.Test.YtbhmjmfappfjkaaLSides
import Derived.Deep.RegionHeld3
namespace Go.Proofs.Ytbhmjmfappfjkaa
open Go.RowKit

theorem scale_two (A : Option Addr) (cA na : Nat) (xs : List UInt64) (w : World) (hx : Rd w A xs) (lx : na = xs.length) (hn : na ≤ 1000000) :
    Calls Try.prog 21 #[.int .u64 2, .slice A na cA] w (Row (xs.map (2 * ·)) w) := scale_any 2 A cA na xs w hx lx hn
theorem usum_append (xs ys : List UInt64) : usum (xs ++ ys) = usum xs + usum ys := by
  induction xs with
  | nil => simp [usum_nil]
  | cons x xs ih => rw [List.cons_append, usum_cons, usum_cons, ih, UInt64.add_assoc]
theorem sum_parts (xs : List UInt64) (k : Nat) : usum xs = usum (xs.take k) + usum (xs.drop k) := by
  rw [← usum_append, List.take_append_drop]
theorem dot_parts (xs ys : List UInt64) (k : Nat) : udot xs ys = udot (xs.take k) (ys.take k) + udot (xs.drop k) (ys.drop k) := by
  unfold udot
  rw [← List.take_zipWith, ← List.drop_zipWith]
  exact sum_parts _ k
theorem scale_two_eq (xs : List UInt64) : xs.map (2 * ·) = List.zipWith (· + ·) xs xs := by
  rw [List.zipWith_self]
  exact List.map_congr_left fun x _ => by grind
theorem scale_zero_eq (xs ys : List UInt64) (h : xs.length = ys.length) : xs.map (0 * ·) = List.zipWith (· - ·) ys ys := by
  apply List.ext_getElem
  · simp [h]
  · intro i h1 h2
    simp

end Go.Proofs.Ytbhmjmfappfjkaa
