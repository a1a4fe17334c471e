/-
  What comes of windows and blocks: plain arithmetic.
-/
import Derived.Test.YtnfmpladdfgadaaMath
namespace Go.Proofs.Ytnfmpladdfgadaa
open Go.RowKit

/-- Does a Conv fit? -/
def convB (c h w out size step : Int) : Bool :=
  rightB c h w && decide (1 ≤ out ∧ out ≤ 8 ∧ 1 ≤ size ∧ size ≤ min h w ∧ 1 ≤ step ∧ step ≤ 12) && rightB out ((h - size) / step + 1) ((w - size) / step + 1)
theorem convB_out {c h w out size step : Int} (e : convB c h w out size step = true) :
    rightB c h w = true ∧ 1 ≤ out ∧ out ≤ 8 ∧ 1 ≤ size ∧ size ≤ min h w ∧ 1 ≤ step ∧ step ≤ 12 ∧ rightB out ((h - size) / step + 1) ((w - size) / step + 1) = true := by
  simp [convB] at e; simp [e]
theorem convB_yes {c h w out size step : Int}
    (e : rightB c h w = true ∧ 1 ≤ out ∧ out ≤ 8 ∧ 1 ≤ size ∧ size ≤ min h w ∧ 1 ≤ step ∧ step ≤ 12 ∧ rightB out ((h - size) / step + 1) ((w - size) / step + 1) = true) : convB c h w out size step = true := by
  obtain ⟨a, b1, b2, b3, b4, b5, b6, d⟩ := e
  unfold convB
  rw [a, d, decide_eq_true ⟨b1, b2, b3, b4, b5, b6⟩]; rfl
theorem convB_no {c h w out size step : Int}
    (e : ¬ (rightB c h w = true ∧ 1 ≤ out ∧ out ≤ 8 ∧ 1 ≤ size ∧ size ≤ min h w ∧ 1 ≤ step ∧ step ≤ 12 ∧ rightB out ((h - size) / step + 1) ((w - size) / step + 1) = true)) : convB c h w out size step = false := by
  cases f : convB c h w out size step
  · rfl
  · exact absurd (convB_out f) e
/-- The shape that comes of a Conv. -/
def convC (c h w out size step : Int) : Int := if convB c h w out size step = true then out else 0
def convH (c h w out size step : Int) : Int := if convB c h w out size step = true then (h - size) / step + 1 else 0
def convW (c h w out size step : Int) : Int := if convB c h w out size step = true then (w - size) / step + 1 else 0
theorem conv_is {c h w out size step : Int} (e : convB c h w out size step = true) :
    convC c h w out size step = out ∧ convH c h w out size step = (h - size) / step + 1 ∧ convW c h w out size step = (w - size) / step + 1 := ⟨if_pos e, if_pos e, if_pos e⟩
theorem conv_none {c h w out size step : Int} (e : convB c h w out size step = false) :
    convC c h w out size step = 0 ∧ convH c h w out size step = 0 ∧ convW c h w out size step = 0 := by
  have : ¬ convB c h w out size step = true := by rw [e]; decide
  exact ⟨if_neg this, if_neg this, if_neg this⟩
/-- Does a Pool fit? -/
def poolB (c h w size : Int) : Bool := rightB c h w && decide (1 ≤ size ∧ h % size = 0 ∧ w % size = 0)
theorem poolB_out {c h w size : Int} (e : poolB c h w size = true) : rightB c h w = true ∧ 1 ≤ size ∧ h % size = 0 ∧ w % size = 0 := by
  simpa [poolB] using e
theorem poolB_yes {c h w size : Int} (e : rightB c h w = true ∧ 1 ≤ size ∧ h % size = 0 ∧ w % size = 0) : poolB c h w size = true := by
  simpa [poolB] using e
theorem poolB_no {c h w size : Int} (e : ¬ (rightB c h w = true ∧ 1 ≤ size ∧ h % size = 0 ∧ w % size = 0)) : poolB c h w size = false := by
  cases f : poolB c h w size
  · rfl
  · exact absurd (poolB_out f) e
def poolC (c h w size : Int) : Int := if poolB c h w size = true then c else 0
def poolH (c h w size : Int) : Int := if poolB c h w size = true then h / size else 0
def poolW (c h w size : Int) : Int := if poolB c h w size = true then w / size else 0
theorem pool_is {c h w size : Int} (e : poolB c h w size = true) : poolC c h w size = c ∧ poolH c h w size = h / size ∧ poolW c h w size = w / size := ⟨if_pos e, if_pos e, if_pos e⟩
theorem pool_none {c h w size : Int} (e : poolB c h w size = false) : poolC c h w size = 0 ∧ poolH c h w size = 0 ∧ poolW c h w size = 0 := by
  have : ¬ poolB c h w size = true := by rw [e]; decide
  exact ⟨if_neg this, if_neg this, if_neg this⟩
/-- How many windows there are is from 1 to 12. -/
theorem wins_bd {h size step : Int} (h1 : 1 ≤ h) (h2 : h ≤ 12) (s1 : 1 ≤ size) (s2 : size ≤ h) (t1 : 1 ≤ step) : 0 ≤ (h - size) / step ∧ (h - size) / step ≤ 11 := by
  have a : 0 ≤ (h - size) / step := Int.ediv_nonneg (by omega) (by omega)
  have b : (h - size) / step ≤ h - size := Int.ediv_le_self _ (by omega)
  omega

end Go.Proofs.Ytnfmpladdfgadaa
