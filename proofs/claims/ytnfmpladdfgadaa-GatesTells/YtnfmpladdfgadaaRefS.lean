/-
  What the document's own Right, Size and Pool answer.
-/
import Derived.Test.YtnfmpladdfgadaaPool
namespace Go.Proofs.Ytnfmpladdfgadaa
open Go.RowKit

set_option maxHeartbeats 1000000 in
theorem rright_any (c h x : Int) (w : World) :
    Calls Try.prog 56 #[.agg #[.int .i64 c, .int .i64 h, .int .i64 x]] w fun e w' => e = .returned (.bool (rightB c h x)) ∧ Below w.heap.size w w' := by
  by_cases p0 : c < 1
  · have H : Hid (rightB c h x = false) := rightB_no (by omega)
    go_enter Try.func56, Try.ntmps56
    go_wp2_with fail
    go_ret
    exact ⟨ret_bool H.out.symm, (Below.refl _ _).alloc (Nat.le_refl _) _⟩
  replace p0 : 1 ≤ c := by omega
  by_cases p1 : 8 < c
  · have H : Hid (rightB c h x = false) := rightB_no (by omega)
    go_enter Try.func56, Try.ntmps56
    go_wp2_with fail
    go_ret
    exact ⟨ret_bool H.out.symm, (Below.refl _ _).alloc (Nat.le_refl _) _⟩
  replace p1 : c ≤ 8 := by omega
  by_cases p2 : h < 1
  · have H : Hid (rightB c h x = false) := rightB_no (by omega)
    go_enter Try.func56, Try.ntmps56
    go_wp2_with fail
    go_ret
    exact ⟨ret_bool H.out.symm, (Below.refl _ _).alloc (Nat.le_refl _) _⟩
  replace p2 : 1 ≤ h := by omega
  by_cases p3 : 12 < h
  · have H : Hid (rightB c h x = false) := rightB_no (by omega)
    go_enter Try.func56, Try.ntmps56
    go_wp2_with fail
    go_ret
    exact ⟨ret_bool H.out.symm, (Below.refl _ _).alloc (Nat.le_refl _) _⟩
  replace p3 : h ≤ 12 := by omega
  by_cases p4 : x < 1
  · have H : Hid (rightB c h x = false) := rightB_no (by omega)
    go_enter Try.func56, Try.ntmps56
    go_wp2_with fail
    go_ret
    exact ⟨ret_bool H.out.symm, (Below.refl _ _).alloc (Nat.le_refl _) _⟩
  replace p4 : 1 ≤ x := by omega
  by_cases p5 : 12 < x
  · have H : Hid (rightB c h x = false) := rightB_no (by omega)
    go_enter Try.func56, Try.ntmps56
    go_wp2_with fail
    go_ret
    exact ⟨ret_bool H.out.symm, (Below.refl _ _).alloc (Nat.le_refl _) _⟩
  replace p5 : x ≤ 12 := by omega
  obtain ⟨b1, b2, b3, b4, b5, b6⟩ := prod_small p0 p1 p2 p3 p4 p5
  have H : Hid (rightB c h x = decide (c * h * x ≤ 128)) := by
    show _ = _
    unfold rightB
    rw [Bool.eq_iff_iff]; simp; omega
  go_enter Try.func56, Try.ntmps56
  go_wp2_with fail
  go_ret
  exact ⟨ret_bool H.out.symm, (Below.refl _ _).alloc (Nat.le_refl _) _⟩
theorem rright_yes (c h x : Int) (w : World) (r : rightB c h x = true) :
    Calls Try.prog 56 #[.agg #[.int .i64 c, .int .i64 h, .int .i64 x]] w fun e w' => e = .returned (.bool true) ∧ Below w.heap.size w w' := by
  have := rright_any c h x w
  rwa [r] at this
theorem rright_no (c h x : Int) (w : World) (r : rightB c h x = false) :
    Calls Try.prog 56 #[.agg #[.int .i64 c, .int .i64 h, .int .i64 x]] w fun e w' => e = .returned (.bool false) ∧ Below w.heap.size w w' := by
  have := rright_any c h x w
  rwa [r] at this
set_option maxHeartbeats 1000000 in
theorem rsize_any (c h x : Int) (w : World) :
    Calls Try.prog 52 #[.agg #[.int .i64 c, .int .i64 h, .int .i64 x]] w fun e w' => e = .returned (.int .i64 (sizeI c h x)) ∧ Below w.heap.size w w' := by
  cases r : rightB c h x
  · have HS := Lib.hid (sizeI_no r)
    have HR := Lib.hid r; clear r
    go_enter Try.func52, Try.ntmps52
    go_wp2_with fail
    refine (rright_no c h x _ HR.out).mono ?_
    rintro e w1 ⟨rfl, hb1⟩
    have HB1 : Hid (Below w.heap.size w w1) := chain (by repeat first | exact Below.refl _ _ | refine chain_alloc ?_ _) hb1
    clear hb1
    go_wp2_with fail
    go_ret
    exact ⟨ret_int HS.out.symm, HB1.out⟩
  · obtain ⟨a1, a2, a3, a4, a5, a6, a7⟩ := rightB_out r
    obtain ⟨b1, b2, b3, b4, b5, b6⟩ := prod_small a1 a2 a3 a4 a5 a6
    have HS := Lib.hid (sizeI_yes r)
    have HR := Lib.hid r; clear r
    go_enter Try.func52, Try.ntmps52
    go_wp2_with fail
    refine (rright_yes c h x _ HR.out).mono ?_
    rintro e w1 ⟨rfl, hb1⟩
    have HB1 : Hid (Below w.heap.size w w1) := chain (by repeat first | exact Below.refl _ _ | refine chain_alloc ?_ _) hb1
    obtain ⟨hc, hf⟩ := bcell hb1
    clear hb1
    go_wp2_with fail
    go_ret
    exact ⟨ret_int HS.out.symm, HB1.out⟩
set_option maxHeartbeats 400000 in
theorem rpool_wrong (c h x size : Int) (w : World) (r : rightB c h x = false) :
    Calls Try.prog 89 #[.agg #[.int .i64 c, .int .i64 h, .int .i64 x], .int .i64 size] w (Out 0 0 0 false w) := by
  have HR := Lib.hid r; clear r
  go_enter Try.func89, Try.ntmps89
  go_wp2_with fail
  refine (rright_no c h x _ HR.out).mono ?_
  rintro e w1 ⟨rfl, hb1⟩
  have HB1 : Hid (Below w.heap.size w w1) := chain (by repeat first | exact Below.refl _ _ | refine chain_alloc ?_ _) hb1
  obtain ⟨hc, hf⟩ := bcell hb1
  have hz : w.heap.size + 1 < w1.heap.size := by have := hb1.size; simp at this; omega
  clear hb1
  go_wp2_with fail
  exact bodyPost_ret (v := .tuple #[.agg #[.int .i64 0, .int .i64 0, .int .i64 0], .bool false]) (by simp [results, Try.results89, go_sem, hc]) rfl ⟨rfl, ((HB1.out.setCell (by simp) _).setCell (by simp) _).setCell (by simp) _⟩
set_option maxHeartbeats 400000 in
theorem rpool_low (c h x size : Int) (w : World) (r : rightB c h x = true) (s : size < 1) :
    Calls Try.prog 89 #[.agg #[.int .i64 c, .int .i64 h, .int .i64 x], .int .i64 size] w (Out 0 0 0 false w) := by
  have HR := Lib.hid r; clear r
  go_enter Try.func89, Try.ntmps89
  go_wp2_with fail
  refine (rright_yes c h x _ HR.out).mono ?_
  rintro e w1 ⟨rfl, hb1⟩
  have HB1 : Hid (Below w.heap.size w w1) := chain (by repeat first | exact Below.refl _ _ | refine chain_alloc ?_ _) hb1
  obtain ⟨hc, hf⟩ := bcell hb1
  have hz : w.heap.size + 1 < w1.heap.size := by have := hb1.size; simp at this; omega
  clear hb1
  go_wp2_with fail
  exact bodyPost_ret (v := .tuple #[.agg #[.int .i64 0, .int .i64 0, .int .i64 0], .bool false]) (by simp [results, Try.results89, go_sem, hc]) rfl ⟨rfl, ((HB1.out.setCell (by simp) _).setCell (by simp) _).setCell (by simp) _⟩
set_option maxHeartbeats 400000 in
theorem rpool_high (c h x size : Int) (w : World) (r : rightB c h x = true) (s : 1 ≤ size) (m : ¬ h % size = 0) :
    Calls Try.prog 89 #[.agg #[.int .i64 c, .int .i64 h, .int .i64 x], .int .i64 size] w (Out 0 0 0 false w) := by
  obtain ⟨a1, a2, a3, a4, a5, a6, a7⟩ := rightB_out r
  have HR := Lib.hid r; clear r
  have n : ¬ size = 0 := by omega
  have m' : (h % size != 0) = true := by simpa using m
  go_enter Try.func89, Try.ntmps89
  go_wp2_with fail
  refine (rright_yes c h x _ HR.out).mono ?_
  rintro e w1 ⟨rfl, hb1⟩
  have HB1 : Hid (Below w.heap.size w w1) := chain (by repeat first | exact Below.refl _ _ | refine chain_alloc ?_ _) hb1
  obtain ⟨hc, hf⟩ := bcell hb1
  have hz : w.heap.size + 1 < w1.heap.size := by have := hb1.size; simp at this; omega
  clear hb1
  go_wp2_with fail
  exact bodyPost_ret (v := .tuple #[.agg #[.int .i64 0, .int .i64 0, .int .i64 0], .bool false]) (by simp [results, Try.results89, go_sem, hc]) rfl ⟨rfl, ((HB1.out.setCell (by simp) _).setCell (by simp) _).setCell (by simp) _⟩
set_option maxHeartbeats 400000 in
theorem rpool_wide (c h x size : Int) (w : World) (r : rightB c h x = true) (s : 1 ≤ size) (m : h % size = 0) (k : ¬ x % size = 0) :
    Calls Try.prog 89 #[.agg #[.int .i64 c, .int .i64 h, .int .i64 x], .int .i64 size] w (Out 0 0 0 false w) := by
  obtain ⟨a1, a2, a3, a4, a5, a6, a7⟩ := rightB_out r
  have HR := Lib.hid r; clear r
  have n : ¬ size = 0 := by omega
  have k' : (x % size != 0) = true := by simpa using k
  go_enter Try.func89, Try.ntmps89
  go_wp2_with fail
  refine (rright_yes c h x _ HR.out).mono ?_
  rintro e w1 ⟨rfl, hb1⟩
  have HB1 : Hid (Below w.heap.size w w1) := chain (by repeat first | exact Below.refl _ _ | refine chain_alloc ?_ _) hb1
  obtain ⟨hc, hf⟩ := bcell hb1
  have hz : w.heap.size + 1 < w1.heap.size := by have := hb1.size; simp at this; omega
  clear hb1
  go_wp2_with fail
  exact bodyPost_ret (v := .tuple #[.agg #[.int .i64 0, .int .i64 0, .int .i64 0], .bool false]) (by simp [results, Try.results89, go_sem, hc]) rfl ⟨rfl, ((HB1.out.setCell (by simp) _).setCell (by simp) _).setCell (by simp) _⟩
set_option maxHeartbeats 400000 in
theorem rpool_good (c h x size : Int) (w : World) (r : rightB c h x = true) (s : 1 ≤ size) (m : h % size = 0) (k : x % size = 0) :
    Calls Try.prog 89 #[.agg #[.int .i64 c, .int .i64 h, .int .i64 x], .int .i64 size] w (Out c (h / size) (x / size) true w) := by
  obtain ⟨a1, a2, a3, a4, a5, a6, a7⟩ := rightB_out r
  have HR := Lib.hid r; clear r
  have n : ¬ size = 0 := by omega
  go_enter Try.func89, Try.ntmps89
  go_wp2_with fail
  refine (rright_yes c h x _ HR.out).mono ?_
  rintro e w1 ⟨rfl, hb1⟩
  have HB1 : Hid (Below w.heap.size w w1) := chain (by repeat first | exact Below.refl _ _ | refine chain_alloc ?_ _) hb1
  obtain ⟨hc, hf⟩ := bcell hb1
  have hz : w.heap.size + 1 < w1.heap.size := by have := hb1.size; simp at this; omega
  clear hb1
  have g0 : w1.cell? ⟨w.heap.size, 0, none⟩ = some (.int .i64 c) := by rw [hc _ _ (by simp <;> omega)]; go_simp
  have g1 : w1.cell? ⟨w.heap.size, 1, none⟩ = some (.int .i64 h) := by rw [hc _ _ (by simp <;> omega)]; go_simp
  have g2 : w1.cell? ⟨w.heap.size, 2, none⟩ = some (.int .i64 x) := by rw [hc _ _ (by simp <;> omega)]; go_simp
  go_wp2_with fail
  go_region
  go_wp2_with fail
  exact bodyPost_ret (v := .tuple #[.agg #[.int .i64 c, .int .i64 (h / size), .int .i64 (x / size)], .bool true]) (by simp [results, Try.results89, go_sem, hc]) rfl ⟨rfl, ((HB1.out.drew.setCell (by simp) _).setCell (by simp) _).setCell (by simp) _⟩
theorem rpool_any (c h x size : Int) (w : World) :
    Calls Try.prog 89 #[.agg #[.int .i64 c, .int .i64 h, .int .i64 x], .int .i64 size] w (Out (poolC c h x size) (poolH c h x size) (poolW c h x size) (poolB c h x size) w) := by
  cases f : poolB c h x size
  · have n := pool_none f
    rw [n.1, n.2.1, n.2.2]
    cases r : rightB c h x
    · exact rpool_wrong c h x size w r
    by_cases s : size < 1
    · exact rpool_low c h x size w r s
    by_cases m : h % size = 0
    · by_cases k : x % size = 0
      · rw [poolB_yes ⟨r, by omega, m, k⟩] at f
        cases f
      · exact rpool_wide c h x size w r (by omega) m k
    · exact rpool_high c h x size w r (by omega) m
  · obtain ⟨r, s, m, k⟩ := poolB_out f
    have i := pool_is f
    rw [i.1, i.2.1, i.2.2]
    exact rpool_good c h x size w r s m k

end Go.Proofs.Ytnfmpladdfgadaa
