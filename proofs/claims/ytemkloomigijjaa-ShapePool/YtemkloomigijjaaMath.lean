/-
  Shapes as three numbers, and places in them: plain arithmetic.
-/
import Derived.WalkKit
namespace Go.Proofs.Ytemkloomigijjaa

/-- Is a shape right? -/
def rightB (c h w : Int) : Bool := decide (1 ≤ c ∧ c ≤ 8 ∧ 1 ≤ h ∧ h ≤ 12 ∧ 1 ≤ w ∧ w ≤ 12 ∧ c * h * w ≤ 128)

theorem rightB_out {c h w : Int} (e : rightB c h w = true) : 1 ≤ c ∧ c ≤ 8 ∧ 1 ≤ h ∧ h ≤ 12 ∧ 1 ≤ w ∧ w ≤ 12 ∧ c * h * w ≤ 128 := by simpa [rightB] using e
theorem rightB_yes {c h w : Int} (e : 1 ≤ c ∧ c ≤ 8 ∧ 1 ≤ h ∧ h ≤ 12 ∧ 1 ≤ w ∧ w ≤ 12 ∧ c * h * w ≤ 128) : rightB c h w = true := by simpa [rightB] using e
theorem rightB_no {c h w : Int} (e : ¬ (1 ≤ c ∧ c ≤ 8 ∧ 1 ≤ h ∧ h ≤ 12 ∧ 1 ≤ w ∧ w ≤ 12 ∧ c * h * w ≤ 128)) : rightB c h w = false := by simpa [rightB] using e

theorem mul_lo {a b : Int} (ha : 0 ≤ a) (hb : 0 ≤ b) : 0 ≤ a * b := Int.mul_nonneg ha hb
theorem mul_hi {a b m n : Int} (ha : 0 ≤ a) (hm : a ≤ m) (hb : 0 ≤ b) (hn : b ≤ n) : a * b ≤ m * n :=
  Int.mul_le_mul hm hn hb (Int.le_trans ha hm)

/-- The products of small sides are small. -/
theorem prod_small {c h w : Int} (c1 : 1 ≤ c) (c2 : c ≤ 8) (h1 : 1 ≤ h) (h2 : h ≤ 12) (w1 : 1 ≤ w) (w2 : w ≤ 12) :
    1 ≤ c * h ∧ c * h ≤ 96 ∧ 1 ≤ c * h * w ∧ c * h * w ≤ 1152 ∧ 1 ≤ h * w ∧ h * w ≤ 144 := by
  have a1 : 1 * 1 ≤ c * h := Int.mul_le_mul c1 h1 (by omega) (by omega)
  have a2 : c * h ≤ 8 * 12 := Int.mul_le_mul c2 h2 (by omega) (by omega)
  have a3 : 1 * 1 ≤ c * h * w := Int.mul_le_mul (by omega) w1 (by omega) (by omega)
  have a4 : c * h * w ≤ 96 * 12 := Int.mul_le_mul (by omega) w2 (by omega) (by omega)
  have a5 : 1 * 1 ≤ h * w := Int.mul_le_mul h1 w1 (by omega) (by omega)
  have a6 : h * w ≤ 12 * 12 := Int.mul_le_mul h2 w2 (by omega) (by omega)
  omega

/-- How many numbers a shape has. -/
def sizeI (c h w : Int) : Int := if rightB c h w = true then c * h * w else 0

theorem sizeI_yes {c h w : Int} (e : rightB c h w = true) : sizeI c h w = c * h * w := if_pos e
theorem sizeI_no {c h w : Int} (e : rightB c h w = false) : sizeI c h w = 0 := if_neg (by rw [e]; decide)
theorem sizeI_bd (c h w : Int) : 0 ≤ sizeI c h w ∧ sizeI c h w ≤ 128 := by
  cases e : rightB c h w
  · rw [sizeI_no e]; omega
  · rw [sizeI_yes e]
    obtain ⟨a1, a2, a3, a4, a5, a6, a7⟩ := rightB_out e
    have := prod_small a1 a2 a3 a4 a5 a6
    omega

/-- Is a channel, row and column within a shape that is right? -/
def insideB (c h w k y x : Int) : Bool := rightB c h w && decide (0 ≤ k ∧ k < c ∧ 0 ≤ y ∧ y < h ∧ 0 ≤ x ∧ x < w)

theorem insideB_out {c h w k y x : Int} (e : insideB c h w k y x = true) : rightB c h w = true ∧ 0 ≤ k ∧ k < c ∧ 0 ≤ y ∧ y < h ∧ 0 ≤ x ∧ x < w := by
  simpa [insideB] using e
theorem insideB_yes {c h w k y x : Int} (e : rightB c h w = true) (f : 0 ≤ k ∧ k < c ∧ 0 ≤ y ∧ y < h ∧ 0 ≤ x ∧ x < w) : insideB c h w k y x = true := by
  simp [insideB, e, f]
theorem insideB_no {c h w k y x : Int} (f : ¬ (0 ≤ k ∧ k < c ∧ 0 ≤ y ∧ y < h ∧ 0 ≤ x ∧ x < w)) : insideB c h w k y x = false := by
  unfold insideB; rw [decide_eq_false f, Bool.and_false]
theorem insideB_wrong {c h w k y x : Int} (e : rightB c h w = false) : insideB c h w k y x = false := by
  unfold insideB; rw [e, Bool.false_and]

/-- The place of a row and a column in a channel. -/
def atI (c h w k y x : Int) : Int := if insideB c h w k y x = true then (k * h + y) * w + x else -1

theorem atI_yes {c h w k y x : Int} (e : insideB c h w k y x = true) : atI c h w k y x = (k * h + y) * w + x := if_pos e
theorem atI_no {c h w k y x : Int} (e : insideB c h w k y x = false) : atI c h w k y x = -1 := if_neg (by rw [e]; decide)

/-- What is reckoned on the way to a place is small. -/
theorem at_small {c h w k y x : Int} (e : insideB c h w k y x = true) :
    0 ≤ k * h ∧ k * h ≤ 96 ∧ 0 ≤ (k * h + y) * w ∧ (k * h + y) * w ≤ 1152 ∧ 0 ≤ (k * h + y) * w + x ∧ (k * h + y) * w + x < c * h * w := by
  obtain ⟨r, k0, k1, y0, y1, x0, x1⟩ := insideB_out e
  obtain ⟨a1, a2, a3, a4, a5, a6, a7⟩ := rightB_out r
  have b1 : 0 ≤ k * h := mul_lo k0 (by omega)
  have b2 : k * h ≤ (c - 1) * h := Int.mul_le_mul_of_nonneg_right (by omega) (by omega)
  have b3 : (c - 1) * h = c * h - h := by rw [Int.sub_mul]; omega
  have b4 := prod_small a1 a2 a3 a4 a5 a6
  have b5 : 0 ≤ (k * h + y) * w := mul_lo (by omega) (by omega)
  have b6 : (k * h + y) * w ≤ (c * h - 1) * w := Int.mul_le_mul_of_nonneg_right (by omega) (by omega)
  have b7 : (c * h - 1) * w = c * h * w - w := by rw [Int.sub_mul]; omega
  omega

end Go.Proofs.Ytemkloomigijjaa
