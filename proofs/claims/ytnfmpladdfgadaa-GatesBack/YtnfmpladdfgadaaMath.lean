/-
  Shapes as three numbers: plain arithmetic.
-/
import Derived.WalkKit
namespace Go.Proofs.Ytnfmpladdfgadaa
open Go.RowKit

/-- Is a shape right? -/
def rightB (c h w : Int) : Bool := decide (1 ≤ c ∧ c ≤ 8 ∧ 1 ≤ h ∧ h ≤ 12 ∧ 1 ≤ w ∧ w ≤ 12 ∧ c * h * w ≤ 128)
theorem rightB_out {c h w : Int} (e : rightB c h w = true) : 1 ≤ c ∧ c ≤ 8 ∧ 1 ≤ h ∧ h ≤ 12 ∧ 1 ≤ w ∧ w ≤ 12 ∧ c * h * w ≤ 128 := by simpa [rightB] using e
theorem rightB_yes {c h w : Int} (e : 1 ≤ c ∧ c ≤ 8 ∧ 1 ≤ h ∧ h ≤ 12 ∧ 1 ≤ w ∧ w ≤ 12 ∧ c * h * w ≤ 128) : rightB c h w = true := by simpa [rightB] using e
theorem rightB_no {c h w : Int} (e : ¬ (1 ≤ c ∧ c ≤ 8 ∧ 1 ≤ h ∧ h ≤ 12 ∧ 1 ≤ w ∧ w ≤ 12 ∧ c * h * w ≤ 128)) : rightB c h w = false := by simpa [rightB] using e
theorem mul_lo {a b : Int} (ha : 0 ≤ a) (hb : 0 ≤ b) : 0 ≤ a * b := Int.mul_nonneg ha hb
theorem mul_hi {a b m n : Int} (ha : 0 ≤ a) (hm : a ≤ m) (hb : 0 ≤ b) (hn : b ≤ n) : a * b ≤ m * n :=
  Int.mul_le_mul hm hn hb (Int.le_trans ha hm)
/-- The products of small sides are small. -/
theorem prod_small {c h w : Int} (c1 : 1 ≤ c) (c2 : c ≤ 8) (h1 : 1 ≤ h) (h2 : h ≤ 12) (w1 : 1 ≤ w) (w2 : w ≤ 12) :
    1 ≤ c * h ∧ c * h ≤ 96 ∧ 1 ≤ c * h * w ∧ c * h * w ≤ 1152 ∧ 1 ≤ h * w ∧ h * w ≤ 144 := by
  have a1 : 1 * 1 ≤ c * h := Int.mul_le_mul c1 h1 (by omega) (by omega)
  have a2 : c * h ≤ 8 * 12 := Int.mul_le_mul c2 h2 (by omega) (by omega)
  have a3 : 1 * 1 ≤ c * h * w := Int.mul_le_mul (by omega) w1 (by omega) (by omega)
  have a4 : c * h * w ≤ 96 * 12 := Int.mul_le_mul (by omega) w2 (by omega) (by omega)
  have a5 : 1 * 1 ≤ h * w := Int.mul_le_mul h1 w1 (by omega) (by omega)
  have a6 : h * w ≤ 12 * 12 := Int.mul_le_mul h2 w2 (by omega) (by omega)
  omega
/-- How many numbers a shape has. -/
def sizeI (c h w : Int) : Int := if rightB c h w = true then c * h * w else 0
theorem sizeI_yes {c h w : Int} (e : rightB c h w = true) : sizeI c h w = c * h * w := if_pos e
theorem sizeI_no {c h w : Int} (e : rightB c h w = false) : sizeI c h w = 0 := if_neg (by rw [e]; decide)
theorem sizeI_bd (c h w : Int) : 0 ≤ sizeI c h w ∧ sizeI c h w ≤ 128 := by
  cases e : rightB c h w
  · rw [sizeI_no e]; omega
  · rw [sizeI_yes e]
    obtain ⟨a1, a2, a3, a4, a5, a6, a7⟩ := rightB_out e
    have := prod_small a1 a2 a3 a4 a5 a6
    omega

end Go.Proofs.Ytnfmpladdfgadaa
