/-
  Places in shapes: plain arithmetic.
-/
import Derived.Test.YtnfmpladdfgadaaMath
namespace Go.Proofs.Ytnfmpladdfgadaa
open Go.RowKit

/-- Is a channel, row and column within a shape that is right? -/
def insideB (c h w k y x : Int) : Bool := rightB c h w && decide (0 ≤ k ∧ k < c ∧ 0 ≤ y ∧ y < h ∧ 0 ≤ x ∧ x < w)
theorem insideB_out {c h w k y x : Int} (e : insideB c h w k y x = true) : rightB c h w = true ∧ 0 ≤ k ∧ k < c ∧ 0 ≤ y ∧ y < h ∧ 0 ≤ x ∧ x < w := by
  simpa [insideB] using e
theorem insideB_yes {c h w k y x : Int} (e : rightB c h w = true) (f : 0 ≤ k ∧ k < c ∧ 0 ≤ y ∧ y < h ∧ 0 ≤ x ∧ x < w) : insideB c h w k y x = true := by
  simp [insideB, e, f]
theorem insideB_no {c h w k y x : Int} (f : ¬ (0 ≤ k ∧ k < c ∧ 0 ≤ y ∧ y < h ∧ 0 ≤ x ∧ x < w)) : insideB c h w k y x = false := by
  unfold insideB; rw [decide_eq_false f, Bool.and_false]
theorem insideB_wrong {c h w k y x : Int} (e : rightB c h w = false) : insideB c h w k y x = false := by
  unfold insideB; rw [e, Bool.false_and]
/-- The place of a row and a column in a channel. -/
def atI (c h w k y x : Int) : Int := if insideB c h w k y x = true then (k * h + y) * w + x else -1
theorem atI_yes {c h w k y x : Int} (e : insideB c h w k y x = true) : atI c h w k y x = (k * h + y) * w + x := if_pos e
theorem atI_no {c h w k y x : Int} (e : insideB c h w k y x = false) : atI c h w k y x = -1 := if_neg (by rw [e]; decide)
/-- What is reckoned on the way to a place is small. -/
theorem at_small {c h w k y x : Int} (e : insideB c h w k y x = true) :
    0 ≤ k * h ∧ k * h ≤ 96 ∧ 0 ≤ (k * h + y) * w ∧ (k * h + y) * w ≤ 1152 ∧ 0 ≤ (k * h + y) * w + x ∧ (k * h + y) * w + x < c * h * w := by
  obtain ⟨r, k0, k1, y0, y1, x0, x1⟩ := insideB_out e
  obtain ⟨a1, a2, a3, a4, a5, a6, a7⟩ := rightB_out r
  have b1 : 0 ≤ k * h := mul_lo k0 (by omega)
  have b2 : k * h ≤ (c - 1) * h := Int.mul_le_mul_of_nonneg_right (by omega) (by omega)
  have b3 : (c - 1) * h = c * h - h := by rw [Int.sub_mul]; omega
  have b4 := prod_small a1 a2 a3 a4 a5 a6
  have b5 : 0 ≤ (k * h + y) * w := mul_lo (by omega) (by omega)
  have b6 : (k * h + y) * w ≤ (c * h - 1) * w := Int.mul_le_mul_of_nonneg_right (by omega) (by omega)
  have b7 : (c * h - 1) * w = c * h * w - w := by rw [Int.sub_mul]; omega
  omega
/-- Is a number a place of a shape? -/
def hasB (c h w i : Int) : Bool := decide (0 ≤ i ∧ i < sizeI c h w)
theorem hasB_out {c h w i : Int} (e : hasB c h w i = true) : 0 ≤ i ∧ i < sizeI c h w := by simpa [hasB] using e
theorem hasB_yes {c h w i : Int} (e : 0 ≤ i) (f : i < sizeI c h w) : hasB c h w i = true := by simp [hasB, e, f]
theorem hasB_not {c h w i : Int} (e : hasB c h w i = false) : ¬ (0 ≤ i ∧ i < sizeI c h w) := by simpa [hasB] using e
theorem hasB_no {c h w i : Int} (e : ¬ (0 ≤ i ∧ i < sizeI c h w)) : hasB c h w i = false := by simpa [hasB] using e
theorem hasB_right {c h w i : Int} (e : hasB c h w i = true) : rightB c h w = true := by
  obtain ⟨a, b⟩ := hasB_out e
  cases r : rightB c h w
  · rw [sizeI_no r] at b; omega
  · rfl
/-- A place's channel, row and column. -/
def chI (c h w i : Int) : Int := if hasB c h w i = true then i / (h * w) else 0
def rowI (c h w i : Int) : Int := if hasB c h w i = true then i / w % h else 0
def colI (c h w i : Int) : Int := if hasB c h w i = true then i % w else 0
theorem of_yes {c h w i : Int} (e : hasB c h w i = true) : chI c h w i = i / (h * w) ∧ rowI c h w i = i / w % h ∧ colI c h w i = i % w := ⟨if_pos e, if_pos e, if_pos e⟩
theorem of_no {c h w i : Int} (e : hasB c h w i = false) : chI c h w i = 0 ∧ rowI c h w i = 0 ∧ colI c h w i = 0 := by
  have : ¬ hasB c h w i = true := by rw [e]; decide
  exact ⟨if_neg this, if_neg this, if_neg this⟩
theorem div_mul_of (i h w : Int) (w0 : 0 < w) : i / (h * w) = i / w / h := by
  rw [Int.mul_comm h w, Int.ediv_ediv_of_nonneg (by omega)]
/-- What stands at a place is within the shape, and At of it is the place. -/
theorem of_at {c h w i : Int} (e : hasB c h w i = true) :
    insideB c h w (i / (h * w)) (i / w % h) (i % w) = true ∧ (i / (h * w) * h + i / w % h) * w + i % w = i := by
  obtain ⟨i0, i1⟩ := hasB_out e
  have r := hasB_right e
  rw [sizeI_yes r] at i1
  obtain ⟨a1, a2, a3, a4, a5, a6, a7⟩ := rightB_out r
  rw [div_mul_of i h w (by omega)]
  have d1 := Int.mul_ediv_add_emod (i / w) h
  have d2 := Int.mul_ediv_add_emod i w
  have m1 := Int.emod_nonneg (i / w) (show h ≠ 0 by omega)
  have m2 := Int.emod_lt_of_pos (i / w) (show 0 < h by omega)
  have m3 := Int.emod_nonneg i (show w ≠ 0 by omega)
  have m4 := Int.emod_lt_of_pos i (show 0 < w by omega)
  have q1 : 0 ≤ i / w := Int.ediv_nonneg i0 (by omega)
  have q2 : 0 ≤ i / w / h := Int.ediv_nonneg q1 (by omega)
  have q3 : i / w < c * h := Int.ediv_lt_of_lt_mul (by omega) i1
  have q4 : i / w / h < c := Int.ediv_lt_of_lt_mul (by omega) q3
  refine ⟨insideB_yes r ⟨q2, q4, m1, m2, m3, m4⟩, ?_⟩
  rw [Int.mul_comm (i / w / h) h, d1, Int.mul_comm (i / w) w, d2]
/-- A place within the shape, and where it is. -/
theorem at_of {c h w k y x : Int} (e : insideB c h w k y x = true) :
    hasB c h w ((k * h + y) * w + x) = true ∧ ((k * h + y) * w + x) / (h * w) = k ∧ ((k * h + y) * w + x) / w % h = y ∧ ((k * h + y) * w + x) % w = x := by
  obtain ⟨r, k0, k1, y0, y1, x0, x1⟩ := insideB_out e
  obtain ⟨a1, a2, a3, a4, a5, a6, a7⟩ := rightB_out r
  obtain ⟨b1, b2, b3, b4, b5, b6⟩ := at_small e
  have q : ((k * h + y) * w + x) / w = k * h + y := by
    rw [Int.add_comm, Int.add_mul_ediv_right _ _ (by omega), Int.ediv_eq_zero_of_lt x0 x1]; omega
  refine ⟨hasB_yes b5 (by rw [sizeI_yes r]; exact b6), ?_, ?_, ?_⟩
  · rw [div_mul_of _ h w (by omega), q, Int.add_comm, Int.add_mul_ediv_right _ _ (by omega), Int.ediv_eq_zero_of_lt y0 y1]; omega
  · rw [q, Int.add_comm, Int.add_mul_emod_self_right, Int.emod_eq_of_lt y0 y1]
  · rw [Int.add_comm, Int.add_mul_emod_self_right, Int.emod_eq_of_lt x0 x1]

end Go.Proofs.Ytnfmpladdfgadaa
