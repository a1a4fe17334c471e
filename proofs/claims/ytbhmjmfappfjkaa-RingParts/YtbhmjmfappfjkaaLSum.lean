/-
  Sums of rows, number by number.
-/
import Derived.Test.YtbhmjmfappfjkaaLaw
namespace Go.Proofs.Ytbhmjmfappfjkaa

theorem usum_from (s : UInt64) (us : List UInt64) : us.foldl (· + ·) s = s + usum us := by
  unfold usum
  induction us generalizing s with
  | nil => simp
  | cons x us ih =>
    rw [List.foldl_cons, List.foldl_cons, ih (s + x), ih (0 + x)]
    grind
theorem usum_nil : usum [] = 0 := rfl
theorem usum_cons (x : UInt64) (us : List UInt64) : usum (x :: us) = x + usum us := by
  have h := usum_from (0 + x) us
  unfold usum at h ⊢
  rw [List.foldl_cons, h]; grind
theorem udot_cons (x y : UInt64) (xs ys : List UInt64) : udot (x :: xs) (y :: ys) = x * y + udot xs ys := by
  unfold udot; rw [List.zipWith_cons_cons, usum_cons]
theorem udot_nil (ys : List UInt64) : udot [] ys = 0 := by unfold udot; rw [List.zipWith_nil_left]; rfl

end Go.Proofs.Ytbhmjmfappfjkaa
