/-
  What Size, At and Of of package shape answer.
-/
import Derived.Test.YtemkloomigijjaaRight
namespace Go.Proofs.Ytemkloomigijjaa
open Go.RowKit

theorem right_yes (c h x : Int) (w : World) (r : rightB c h x = true) :
    Calls Try.prog 17 #[.agg #[.int .i64 c, .int .i64 h, .int .i64 x]] w fun e w' => e = .returned (.bool true) ∧ Below w.heap.size w w' := by
  have := right_any c h x w
  rwa [r] at this
theorem right_no (c h x : Int) (w : World) (r : rightB c h x = false) :
    Calls Try.prog 17 #[.agg #[.int .i64 c, .int .i64 h, .int .i64 x]] w fun e w' => e = .returned (.bool false) ∧ Below w.heap.size w w' := by
  have := right_any c h x w
  rwa [r] at this

set_option maxHeartbeats 1000000 in
theorem size_any (c h x : Int) (w : World) :
    Calls Try.prog 19 #[.agg #[.int .i64 c, .int .i64 h, .int .i64 x]] w fun e w' => e = .returned (.int .i64 (sizeI c h x)) ∧ Below w.heap.size w w' := by
  cases r : rightB c h x
  · have HS := Lib.hid (sizeI_no r)
    have HR := Lib.hid r; clear r
    go_enter Try.func19, Try.ntmps19
    go_wp2_with fail
    refine (right_no c h x _ HR.out).mono ?_
    rintro e w1 ⟨rfl, hb1⟩
    have HB1 : Hid (Below w.heap.size w w1) := chain (by repeat first | exact Below.refl _ _ | refine chain_alloc ?_ _) hb1
    clear hb1
    go_wp2_with fail
    go_ret
    exact ⟨ret_int HS.out.symm, HB1.out⟩
  · obtain ⟨a1, a2, a3, a4, a5, a6, a7⟩ := rightB_out r
    obtain ⟨b1, b2, b3, b4, b5, b6⟩ := prod_small a1 a2 a3 a4 a5 a6
    have HS := Lib.hid (sizeI_yes r)
    have HR := Lib.hid r; clear r
    go_enter Try.func19, Try.ntmps19
    go_wp2_with fail
    refine (right_yes c h x _ HR.out).mono ?_
    rintro e w1 ⟨rfl, hb1⟩
    have HB1 : Hid (Below w.heap.size w w1) := chain (by repeat first | exact Below.refl _ _ | refine chain_alloc ?_ _) hb1
    obtain ⟨hc, hf⟩ := bcell hb1
    clear hb1
    go_wp2_with fail
    go_ret
    exact ⟨ret_int HS.out.symm, HB1.out⟩

theorem sides_at_no (k y z c h x : Int) (b : Nat) (w : World) (hb : b < w.heap.size) (r : rightB c h x = true) (s : insideB c h x k y z = false)
    (c0 : w.cell? ⟨b, 0, none⟩ = some (.int .i64 k)) (c1 : w.cell? ⟨b, 1, none⟩ = some (.int .i64 y)) (c2 : w.cell? ⟨b, 2, none⟩ = some (.int .i64 z)) :
    Calls Try.prog 24 #[.agg #[.int .i64 c, .int .i64 h, .int .i64 x], .func (.func 26) #[] #[.pointer (some ⟨b, 0, none⟩)]] w fun e w' => e = .returned (.bool false) ∧ Below w.heap.size w w' := by
  have := sides_at k y z c h x b w hb r c0 c1 c2
  rwa [s] at this
theorem sides_at_yes (k y z c h x : Int) (b : Nat) (w : World) (hb : b < w.heap.size) (r : rightB c h x = true) (s : insideB c h x k y z = true)
    (c0 : w.cell? ⟨b, 0, none⟩ = some (.int .i64 k)) (c1 : w.cell? ⟨b, 1, none⟩ = some (.int .i64 y)) (c2 : w.cell? ⟨b, 2, none⟩ = some (.int .i64 z)) :
    Calls Try.prog 24 #[.agg #[.int .i64 c, .int .i64 h, .int .i64 x], .func (.func 26) #[] #[.pointer (some ⟨b, 0, none⟩)]] w fun e w' => e = .returned (.bool true) ∧ Below w.heap.size w w' := by
  have := sides_at k y z c h x b w hb r c0 c1 c2
  rwa [s] at this

set_option maxHeartbeats 1000000 in
theorem at_any (c h x k y z : Int) (w : World) :
    Calls Try.prog 21 #[.agg #[.int .i64 c, .int .i64 h, .int .i64 x], .int .i64 k, .int .i64 y, .int .i64 z] w fun e w' => e = .returned (.int .i64 (atI c h x k y z)) ∧ Below w.heap.size w w' := by
  cases r : rightB c h x
  · have HS := Lib.hid (atI_no (insideB_wrong (k := k) (y := y) (x := z) r))
    have HR := Lib.hid r; clear r
    go_enter Try.func21, Try.ntmps21
    go_wp2_with fail
    refine (right_no c h x _ HR.out).mono ?_
    rintro e w1 ⟨rfl, hb1⟩
    have HB1 : Hid (Below w.heap.size w w1) := chain (by repeat first | exact Below.refl _ _ | refine chain_alloc ?_ _) hb1
    clear hb1
    go_wp2_with fail
    go_ret
    exact ⟨ret_int HS.out.symm, HB1.out⟩
  · cases s : insideB c h x k y z
    · have HS := Lib.hid (atI_no s)
      have HR := Lib.hid r; clear r
      have HI := Lib.hid s; clear s
      go_enter Try.func21, Try.ntmps21
      go_wp2_with fail
      refine (right_yes c h x _ HR.out).mono ?_
      rintro e w1 ⟨rfl, hb1⟩
      have HB1 : Hid (Below w.heap.size w w1) := chain (by repeat first | exact Below.refl _ _ | refine chain_alloc ?_ _) hb1
      obtain ⟨hc, hf⟩ := bcell hb1
      have hz : w.heap.size + 1 < w1.heap.size := by have := hb1.size; simp at this; omega
      clear hb1
      go_wp2_with fail
      refine (sides_at_no k y z c h x (w.heap.size + 1) _ hz HR.out HI.out (by rw [hc _ _ (by simp)]; simp) (by rw [hc _ _ (by simp)]; simp) (by rw [hc _ _ (by simp)]; simp)).mono ?_
      rintro e w2 ⟨rfl, hb2⟩
      have HB2 : Hid (Below w.heap.size w w2) := chain HB1.out hb2
      clear hb2
      go_wp2_with fail
      go_ret
      exact ⟨ret_int HS.out.symm, HB2.out⟩
    · obtain ⟨b1, b2, b3, b4, b5, b6⟩ := at_small s
      obtain ⟨_, k0, k1, y0, y1, z0, z1⟩ := insideB_out s
      obtain ⟨a1, a2, a3, a4, a5, a6, a7⟩ := rightB_out r
      have HS := Lib.hid (atI_yes s)
      have HR := Lib.hid r; clear r
      have HI := Lib.hid s; clear s
      go_enter Try.func21, Try.ntmps21
      go_wp2_with fail
      refine (right_yes c h x _ HR.out).mono ?_
      rintro e w1 ⟨rfl, hb1⟩
      have HB1 : Hid (Below w.heap.size w w1) := chain (by repeat first | exact Below.refl _ _ | refine chain_alloc ?_ _) hb1
      obtain ⟨hc, hf⟩ := bcell hb1
      have hz : w.heap.size + 1 < w1.heap.size := by have := hb1.size; simp at this; omega
      clear hb1
      go_wp2_with fail
      refine (sides_at_yes k y z c h x (w.heap.size + 1) _ hz HR.out HI.out (by rw [hc _ _ (by simp)]; simp) (by rw [hc _ _ (by simp)]; simp) (by rw [hc _ _ (by simp)]; simp)).mono ?_
      rintro e w2 ⟨rfl, hb2⟩
      have HB2 : Hid (Below w.heap.size w w2) := chain HB1.out hb2
      have g1 : w2.cell? ⟨w.heap.size, 1, none⟩ = some (.int .i64 h) := by rw [hb2.cell (p := ⟨w.heap.size, 1, none⟩) (by show w.heap.size < _; omega), hc _ _ (by simp <;> omega)]; go_simp
      have g2 : w2.cell? ⟨w.heap.size, 2, none⟩ = some (.int .i64 x) := by rw [hb2.cell (p := ⟨w.heap.size, 2, none⟩) (by show w.heap.size < _; omega), hc _ _ (by simp <;> omega)]; go_simp
      clear hb2 hc hf
      go_wp2_with fail
      go_ret
      exact ⟨ret_int HS.out.symm, HB2.out⟩

end Go.Proofs.Ytemkloomigijjaa
