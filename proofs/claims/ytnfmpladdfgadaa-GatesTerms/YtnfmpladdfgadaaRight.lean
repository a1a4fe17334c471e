/-
  What Right and Size of package shape answer.
-/
import Derived.Test.YtnfmpladdfgadaaSides
import Derived.Test.YtnfmpladdfgadaaMath
namespace Go.Proofs.Ytnfmpladdfgadaa
open Go.RowKit

theorem chain {w W w1 : World} (h : Below w.heap.size w W) (hb : Below W.heap.size W w1) : Below w.heap.size w w1 := h.trans (hb.mono h.size)
theorem chain_alloc {w W : World} (h : Below w.heap.size w W) (o : Obj) : Below w.heap.size w (W.alloc o) := h.alloc h.size o
theorem bcell {W w1 : World} (hb : Below W.heap.size W w1) : (∀ b o, b < W.heap.size → w1.cell? ⟨b, o, none⟩ = W.cell? ⟨b, o, none⟩) ∧ (∀ b o, b < W.heap.size → w1.frozen? ⟨b, o, none⟩ = W.frozen? ⟨b, o, none⟩) :=
  ⟨fun b o h => hb.cell (p := ⟨b, o, none⟩) h, fun b o h => hb.frozen (p := ⟨b, o, none⟩) h⟩
/-- Are all sides small? -/
def smallB (c h x : Int) : Bool := withinB c 1 8 && (withinB h 1 12 && withinB x 1 12)
theorem smallB_out {c h x : Int} (e : smallB c h x = true) : 1 ≤ c ∧ c ≤ 8 ∧ 1 ≤ h ∧ h ≤ 12 ∧ 1 ≤ x ∧ x ≤ 12 := by
  simp [smallB, withinB] at e; omega
theorem smallB_not {c h x : Int} (e : smallB c h x = false) : rightB c h x = false := by
  cases r : rightB c h x
  · rfl
  · obtain ⟨a1, a2, a3, a4, a5, a6, a7⟩ := rightB_out r
    rw [show smallB c h x = true from by simp [smallB, withinB]; omega] at e
    cases e
theorem most_of : mostOf 0 = 8 ∧ mostOf 1 = 12 ∧ mostOf 2 = 12 := ⟨rfl, rfl, rfl⟩
theorem sides_right (c h x : Int) (b : Nat) (w : World) (hb : b < w.heap.size)
    (c0 : w.cell? ⟨b, 0, none⟩ = some (.int .i64 8)) (c1 : w.cell? ⟨b, 1, none⟩ = some (.int .i64 12)) (c2 : w.cell? ⟨b, 2, none⟩ = some (.int .i64 12)) :
    Calls Try.prog 102 #[.agg #[.int .i64 c, .int .i64 h, .int .i64 x], .func (.func 103) #[] #[.pointer (some ⟨b, 0, none⟩)]] w fun e w' => e = .returned (.bool (smallB c h x)) ∧ Below w.heap.size w w' := by
  refine sides_core 103 _ _ _ _ c h x w (by intro args w; go_simp) (fun w1 h1 => ?_) (fun _ w1 h1 => ?_) (fun _ _ w1 h1 => ?_)
  · exact right1_any 0 c b w1 (by omega) (by omega) ((h1.cell (p := ⟨b, 0, none⟩) hb).trans c0) ((h1.cell (p := ⟨b, 1, none⟩) hb).trans c1) ((h1.cell (p := ⟨b, 2, none⟩) hb).trans c2)
  · exact right1_any 1 h b w1 (by omega) (by omega) ((h1.cell (p := ⟨b, 0, none⟩) hb).trans c0) ((h1.cell (p := ⟨b, 1, none⟩) hb).trans c1) ((h1.cell (p := ⟨b, 2, none⟩) hb).trans c2)
  · exact right1_any 2 x b w1 (by omega) (by omega) ((h1.cell (p := ⟨b, 0, none⟩) hb).trans c0) ((h1.cell (p := ⟨b, 1, none⟩) hb).trans c1) ((h1.cell (p := ⟨b, 2, none⟩) hb).trans c2)
set_option maxHeartbeats 1000000 in
theorem right_any (c h x : Int) (w : World) :
    Calls Try.prog 84 #[.agg #[.int .i64 c, .int .i64 h, .int .i64 x]] w fun e w' => e = .returned (.bool (rightB c h x)) ∧ Below w.heap.size w w' := by
  cases small : smallB c h x
  · have H : Hid (rightB c h x = false) := smallB_not small
    have S := Lib.hid small; clear small
    go_enter Try.func84, Try.ntmps84
    go_wp2_with fail
    refine (sides_right c h x (w.heap.size + 1) _ (by simp) (by simp) (by simp) (by simp)).mono ?_
    rintro e w1 ⟨rfl, hb1⟩
    have HB1 : Hid (Below w.heap.size w w1) := chain (by repeat first | exact Below.refl _ _ | refine chain_alloc ?_ _) hb1
    rw [S.out]
    clear hb1
    go_wp2_with fail
    go_ret
    exact ⟨ret_bool H.out.symm, HB1.out⟩
  · obtain ⟨a1, a2, a3, a4, a5, a6⟩ := smallB_out small
    obtain ⟨b1, b2, b3, b4, b5, b6⟩ := prod_small a1 a2 a3 a4 a5 a6
    have HR : Hid (rightB c h x = decide (c * h * x ≤ 128)) := by
      show _ = _
      unfold rightB
      rw [Bool.eq_iff_iff]; simp; omega
    have S := Lib.hid small; clear small
    go_enter Try.func84, Try.ntmps84
    go_wp2_with fail
    refine (sides_right c h x (w.heap.size + 1) _ (by simp) (by simp) (by simp) (by simp)).mono ?_
    rintro e w1 ⟨rfl, hb1⟩
    have HB1 : Hid (Below w.heap.size w w1) := chain (by repeat first | exact Below.refl _ _ | refine chain_alloc ?_ _) hb1
    rw [S.out]
    obtain ⟨hc, hf⟩ := bcell hb1
    clear hb1
    go_wp2_with fail
    go_ret
    exact ⟨ret_bool HR.out.symm, HB1.out⟩
theorem right_yes (c h x : Int) (w : World) (r : rightB c h x = true) :
    Calls Try.prog 84 #[.agg #[.int .i64 c, .int .i64 h, .int .i64 x]] w fun e w' => e = .returned (.bool true) ∧ Below w.heap.size w w' := by
  have := right_any c h x w
  rwa [r] at this
theorem right_no (c h x : Int) (w : World) (r : rightB c h x = false) :
    Calls Try.prog 84 #[.agg #[.int .i64 c, .int .i64 h, .int .i64 x]] w fun e w' => e = .returned (.bool false) ∧ Below w.heap.size w w' := by
  have := right_any c h x w
  rwa [r] at this
set_option maxHeartbeats 1000000 in
theorem size_any (c h x : Int) (w : World) :
    Calls Try.prog 90 #[.agg #[.int .i64 c, .int .i64 h, .int .i64 x]] w fun e w' => e = .returned (.int .i64 (sizeI c h x)) ∧ Below w.heap.size w w' := by
  cases r : rightB c h x
  · have HS := Lib.hid (sizeI_no r)
    have HR := Lib.hid r; clear r
    go_enter Try.func90, Try.ntmps90
    go_wp2_with fail
    refine (right_no c h x _ HR.out).mono ?_
    rintro e w1 ⟨rfl, hb1⟩
    have HB1 : Hid (Below w.heap.size w w1) := chain (by repeat first | exact Below.refl _ _ | refine chain_alloc ?_ _) hb1
    clear hb1
    go_wp2_with fail
    go_ret
    exact ⟨ret_int HS.out.symm, HB1.out⟩
  · obtain ⟨a1, a2, a3, a4, a5, a6, a7⟩ := rightB_out r
    obtain ⟨b1, b2, b3, b4, b5, b6⟩ := prod_small a1 a2 a3 a4 a5 a6
    have HS := Lib.hid (sizeI_yes r)
    have HR := Lib.hid r; clear r
    go_enter Try.func90, Try.ntmps90
    go_wp2_with fail
    refine (right_yes c h x _ HR.out).mono ?_
    rintro e w1 ⟨rfl, hb1⟩
    have HB1 : Hid (Below w.heap.size w w1) := chain (by repeat first | exact Below.refl _ _ | refine chain_alloc ?_ _) hb1
    obtain ⟨hc, hf⟩ := bcell hb1
    clear hb1
    go_wp2_with fail
    go_ret
    exact ⟨ret_int HS.out.symm, HB1.out⟩

end Go.Proofs.Ytnfmpladdfgadaa
