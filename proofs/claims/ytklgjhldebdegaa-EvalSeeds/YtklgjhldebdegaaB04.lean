/-
  What the laws of this seat stand on, part 4.
-/
import Derived.Test.YtklgjhldebdegaaB03
import Derived.Laws.StructEq
namespace Go.Proofs.Ytklgjhldebdegaa
open Go.RowKit

set_option maxHeartbeats 400000 in
theorem rconv_wrong (c h x out size step : Int) (w : World) (r : rightB c h x = false) :
    Calls Try.prog 61 #[.agg #[.int .i64 c, .int .i64 h, .int .i64 x], .int .i64 out, .int .i64 size, .int .i64 step] w (Out 0 0 0 false w) := by
  have HR := Lib.hid r; clear r
  go_enter Try.func61, Try.ntmps61
  go_wp2_with fail
  refine (rright_no c h x _ HR.out).mono ?_
  rintro e w1 ⟨rfl, hb1⟩
  have HB1 : Hid (Below w.heap.size w w1) := chain (by repeat first | exact Below.refl _ _ | refine chain_alloc ?_ _) hb1
  obtain ⟨hc, hf⟩ := bcell hb1
  have hz : w.heap.size + 1 < w1.heap.size := by have := hb1.size; simp at this; omega
  have g1 : w1.cell? ⟨w.heap.size, 1, none⟩ = some (.int .i64 h) := by rw [hc _ _ (by simp <;> omega)]; go_simp
  have g2 : w1.cell? ⟨w.heap.size, 2, none⟩ = some (.int .i64 x) := by rw [hc _ _ (by simp <;> omega)]; go_simp
  have hz0 : w.heap.size < w1.heap.size := by omega
  clear hb1
  go_wp2_with fail
  exact bodyPost_ret (v := .tuple #[.agg #[.int .i64 0, .int .i64 0, .int .i64 0], .bool false]) (by simp [results, Try.results61, go_sem, hc]) rfl ⟨rfl, ((HB1.out.setCell (by simp) _).setCell (by simp) _).setCell (by simp) _⟩
set_option maxHeartbeats 800000 in
theorem rconv_bad_low (c h x out size step : Int) (w : World) (r : rightB c h x = true) (hm : h ≤ x) (f : ¬ (1 ≤ out ∧ out ≤ 8 ∧ 1 ≤ size ∧ size ≤ h ∧ 1 ≤ step ∧ step ≤ 12)) :
    Calls Try.prog 61 #[.agg #[.int .i64 c, .int .i64 h, .int .i64 x], .int .i64 out, .int .i64 size, .int .i64 step] w (Out 0 0 0 false w) := by
  have HR := Lib.hid r; clear r
  have HF := Lib.hid f; clear f
  by_cases p0 : out < 1
  · have v0 : decide (out < 1) = true := decide_eq_true p0
    clear HF
    go_enter Try.func61, Try.ntmps61
    go_wp2_with fail
    refine (rright_yes c h x _ HR.out).mono ?_
    rintro e w1 ⟨rfl, hb1⟩
    have HB1 : Hid (Below w.heap.size w w1) := chain (by repeat first | exact Below.refl _ _ | refine chain_alloc ?_ _) hb1
    obtain ⟨hc, hf⟩ := bcell hb1
    have hz : w.heap.size + 1 < w1.heap.size := by have := hb1.size; simp at this; omega
    have g1 : w1.cell? ⟨w.heap.size, 1, none⟩ = some (.int .i64 h) := by rw [hc _ _ (by simp <;> omega)]; go_simp
    have g2 : w1.cell? ⟨w.heap.size, 2, none⟩ = some (.int .i64 x) := by rw [hc _ _ (by simp <;> omega)]; go_simp
    have hz0 : w.heap.size < w1.heap.size := by omega
    clear hb1
    go_wp2_with fail
    exact bodyPost_ret (v := .tuple #[.agg #[.int .i64 0, .int .i64 0, .int .i64 0], .bool false]) (by simp [results, Try.results61, go_sem, hc]) rfl ⟨rfl, ((HB1.out.setCell (by simp) _).setCell (by simp) _).setCell (by simp) _⟩
  replace p0 : 1 ≤ out := by omega
  have v0 : decide (out < 1) = false := decide_eq_false (by omega)
  by_cases p1 : 8 < out
  · have v1 : decide (8 < out) = true := decide_eq_true p1
    clear HF
    go_enter Try.func61, Try.ntmps61
    go_wp2_with fail
    refine (rright_yes c h x _ HR.out).mono ?_
    rintro e w1 ⟨rfl, hb1⟩
    have HB1 : Hid (Below w.heap.size w w1) := chain (by repeat first | exact Below.refl _ _ | refine chain_alloc ?_ _) hb1
    obtain ⟨hc, hf⟩ := bcell hb1
    have hz : w.heap.size + 1 < w1.heap.size := by have := hb1.size; simp at this; omega
    have g1 : w1.cell? ⟨w.heap.size, 1, none⟩ = some (.int .i64 h) := by rw [hc _ _ (by simp <;> omega)]; go_simp
    have g2 : w1.cell? ⟨w.heap.size, 2, none⟩ = some (.int .i64 x) := by rw [hc _ _ (by simp <;> omega)]; go_simp
    have hz0 : w.heap.size < w1.heap.size := by omega
    clear hb1
    go_wp2_with fail
    exact bodyPost_ret (v := .tuple #[.agg #[.int .i64 0, .int .i64 0, .int .i64 0], .bool false]) (by simp [results, Try.results61, go_sem, hc]) rfl ⟨rfl, ((HB1.out.setCell (by simp) _).setCell (by simp) _).setCell (by simp) _⟩
  replace p1 : out ≤ 8 := by omega
  have v1 : decide (8 < out) = false := decide_eq_false (by omega)
  by_cases p2 : size < 1
  · have v2 : decide (size < 1) = true := decide_eq_true p2
    clear HF
    go_enter Try.func61, Try.ntmps61
    go_wp2_with fail
    refine (rright_yes c h x _ HR.out).mono ?_
    rintro e w1 ⟨rfl, hb1⟩
    have HB1 : Hid (Below w.heap.size w w1) := chain (by repeat first | exact Below.refl _ _ | refine chain_alloc ?_ _) hb1
    obtain ⟨hc, hf⟩ := bcell hb1
    have hz : w.heap.size + 1 < w1.heap.size := by have := hb1.size; simp at this; omega
    have g1 : w1.cell? ⟨w.heap.size, 1, none⟩ = some (.int .i64 h) := by rw [hc _ _ (by simp <;> omega)]; go_simp
    have g2 : w1.cell? ⟨w.heap.size, 2, none⟩ = some (.int .i64 x) := by rw [hc _ _ (by simp <;> omega)]; go_simp
    have hz0 : w.heap.size < w1.heap.size := by omega
    clear hb1
    go_wp2_with fail
    exact bodyPost_ret (v := .tuple #[.agg #[.int .i64 0, .int .i64 0, .int .i64 0], .bool false]) (by simp [results, Try.results61, go_sem, hc]) rfl ⟨rfl, ((HB1.out.setCell (by simp) _).setCell (by simp) _).setCell (by simp) _⟩
  replace p2 : 1 ≤ size := by omega
  have v2 : decide (size < 1) = false := decide_eq_false (by omega)
  by_cases p3 : h < size
  · have v3 : decide (h < size) = true := decide_eq_true p3
    clear HF
    go_enter Try.func61, Try.ntmps61
    go_wp2_with fail
    refine (rright_yes c h x _ HR.out).mono ?_
    rintro e w1 ⟨rfl, hb1⟩
    have HB1 : Hid (Below w.heap.size w w1) := chain (by repeat first | exact Below.refl _ _ | refine chain_alloc ?_ _) hb1
    obtain ⟨hc, hf⟩ := bcell hb1
    have hz : w.heap.size + 1 < w1.heap.size := by have := hb1.size; simp at this; omega
    have g1 : w1.cell? ⟨w.heap.size, 1, none⟩ = some (.int .i64 h) := by rw [hc _ _ (by simp <;> omega)]; go_simp
    have g2 : w1.cell? ⟨w.heap.size, 2, none⟩ = some (.int .i64 x) := by rw [hc _ _ (by simp <;> omega)]; go_simp
    have hz0 : w.heap.size < w1.heap.size := by omega
    clear hb1
    go_wp2_with fail
    exact bodyPost_ret (v := .tuple #[.agg #[.int .i64 0, .int .i64 0, .int .i64 0], .bool false]) (by simp [results, Try.results61, go_sem, hc]) rfl ⟨rfl, ((HB1.out.setCell (by simp) _).setCell (by simp) _).setCell (by simp) _⟩
  replace p3 : size ≤ h := by omega
  have v3 : decide (h < size) = false := decide_eq_false (by omega)
  by_cases p4 : step < 1
  · have v4 : decide (step < 1) = true := decide_eq_true p4
    clear HF
    go_enter Try.func61, Try.ntmps61
    go_wp2_with fail
    refine (rright_yes c h x _ HR.out).mono ?_
    rintro e w1 ⟨rfl, hb1⟩
    have HB1 : Hid (Below w.heap.size w w1) := chain (by repeat first | exact Below.refl _ _ | refine chain_alloc ?_ _) hb1
    obtain ⟨hc, hf⟩ := bcell hb1
    have hz : w.heap.size + 1 < w1.heap.size := by have := hb1.size; simp at this; omega
    have g1 : w1.cell? ⟨w.heap.size, 1, none⟩ = some (.int .i64 h) := by rw [hc _ _ (by simp <;> omega)]; go_simp
    have g2 : w1.cell? ⟨w.heap.size, 2, none⟩ = some (.int .i64 x) := by rw [hc _ _ (by simp <;> omega)]; go_simp
    have hz0 : w.heap.size < w1.heap.size := by omega
    clear hb1
    go_wp2_with fail
    exact bodyPost_ret (v := .tuple #[.agg #[.int .i64 0, .int .i64 0, .int .i64 0], .bool false]) (by simp [results, Try.results61, go_sem, hc]) rfl ⟨rfl, ((HB1.out.setCell (by simp) _).setCell (by simp) _).setCell (by simp) _⟩
  replace p4 : 1 ≤ step := by omega
  have v4 : decide (step < 1) = false := decide_eq_false (by omega)
  by_cases p5 : 12 < step
  · have v5 : decide (12 < step) = true := decide_eq_true p5
    clear HF
    go_enter Try.func61, Try.ntmps61
    go_wp2_with fail
    refine (rright_yes c h x _ HR.out).mono ?_
    rintro e w1 ⟨rfl, hb1⟩
    have HB1 : Hid (Below w.heap.size w w1) := chain (by repeat first | exact Below.refl _ _ | refine chain_alloc ?_ _) hb1
    obtain ⟨hc, hf⟩ := bcell hb1
    have hz : w.heap.size + 1 < w1.heap.size := by have := hb1.size; simp at this; omega
    have g1 : w1.cell? ⟨w.heap.size, 1, none⟩ = some (.int .i64 h) := by rw [hc _ _ (by simp <;> omega)]; go_simp
    have g2 : w1.cell? ⟨w.heap.size, 2, none⟩ = some (.int .i64 x) := by rw [hc _ _ (by simp <;> omega)]; go_simp
    have hz0 : w.heap.size < w1.heap.size := by omega
    clear hb1
    go_wp2_with fail
    exact bodyPost_ret (v := .tuple #[.agg #[.int .i64 0, .int .i64 0, .int .i64 0], .bool false]) (by simp [results, Try.results61, go_sem, hc]) rfl ⟨rfl, ((HB1.out.setCell (by simp) _).setCell (by simp) _).setCell (by simp) _⟩
  replace p5 : step ≤ 12 := by omega
  have v5 : decide (12 < step) = false := decide_eq_false (by omega)
  exact absurd ⟨p0, p1, p2, p3, p4, p5⟩ HF.out
set_option maxHeartbeats 800000 in
theorem rconv_bad_wide (c h x out size step : Int) (w : World) (r : rightB c h x = true) (hm : x < h) (f : ¬ (1 ≤ out ∧ out ≤ 8 ∧ 1 ≤ size ∧ size ≤ x ∧ 1 ≤ step ∧ step ≤ 12)) :
    Calls Try.prog 61 #[.agg #[.int .i64 c, .int .i64 h, .int .i64 x], .int .i64 out, .int .i64 size, .int .i64 step] w (Out 0 0 0 false w) := by
  have HR := Lib.hid r; clear r
  have HF := Lib.hid f; clear f
  by_cases p0 : out < 1
  · have v0 : decide (out < 1) = true := decide_eq_true p0
    clear HF
    go_enter Try.func61, Try.ntmps61
    go_wp2_with fail
    refine (rright_yes c h x _ HR.out).mono ?_
    rintro e w1 ⟨rfl, hb1⟩
    have HB1 : Hid (Below w.heap.size w w1) := chain (by repeat first | exact Below.refl _ _ | refine chain_alloc ?_ _) hb1
    obtain ⟨hc, hf⟩ := bcell hb1
    have hz : w.heap.size + 1 < w1.heap.size := by have := hb1.size; simp at this; omega
    have g1 : w1.cell? ⟨w.heap.size, 1, none⟩ = some (.int .i64 h) := by rw [hc _ _ (by simp <;> omega)]; go_simp
    have g2 : w1.cell? ⟨w.heap.size, 2, none⟩ = some (.int .i64 x) := by rw [hc _ _ (by simp <;> omega)]; go_simp
    have hz0 : w.heap.size < w1.heap.size := by omega
    clear hb1
    go_wp2_with fail
    exact bodyPost_ret (v := .tuple #[.agg #[.int .i64 0, .int .i64 0, .int .i64 0], .bool false]) (by simp [results, Try.results61, go_sem, hc]) rfl ⟨rfl, ((HB1.out.setCell (by simp) _).setCell (by simp) _).setCell (by simp) _⟩
  replace p0 : 1 ≤ out := by omega
  have v0 : decide (out < 1) = false := decide_eq_false (by omega)
  by_cases p1 : 8 < out
  · have v1 : decide (8 < out) = true := decide_eq_true p1
    clear HF
    go_enter Try.func61, Try.ntmps61
    go_wp2_with fail
    refine (rright_yes c h x _ HR.out).mono ?_
    rintro e w1 ⟨rfl, hb1⟩
    have HB1 : Hid (Below w.heap.size w w1) := chain (by repeat first | exact Below.refl _ _ | refine chain_alloc ?_ _) hb1
    obtain ⟨hc, hf⟩ := bcell hb1
    have hz : w.heap.size + 1 < w1.heap.size := by have := hb1.size; simp at this; omega
    have g1 : w1.cell? ⟨w.heap.size, 1, none⟩ = some (.int .i64 h) := by rw [hc _ _ (by simp <;> omega)]; go_simp
    have g2 : w1.cell? ⟨w.heap.size, 2, none⟩ = some (.int .i64 x) := by rw [hc _ _ (by simp <;> omega)]; go_simp
    have hz0 : w.heap.size < w1.heap.size := by omega
    clear hb1
    go_wp2_with fail
    exact bodyPost_ret (v := .tuple #[.agg #[.int .i64 0, .int .i64 0, .int .i64 0], .bool false]) (by simp [results, Try.results61, go_sem, hc]) rfl ⟨rfl, ((HB1.out.setCell (by simp) _).setCell (by simp) _).setCell (by simp) _⟩
  replace p1 : out ≤ 8 := by omega
  have v1 : decide (8 < out) = false := decide_eq_false (by omega)
  by_cases p2 : size < 1
  · have v2 : decide (size < 1) = true := decide_eq_true p2
    clear HF
    go_enter Try.func61, Try.ntmps61
    go_wp2_with fail
    refine (rright_yes c h x _ HR.out).mono ?_
    rintro e w1 ⟨rfl, hb1⟩
    have HB1 : Hid (Below w.heap.size w w1) := chain (by repeat first | exact Below.refl _ _ | refine chain_alloc ?_ _) hb1
    obtain ⟨hc, hf⟩ := bcell hb1
    have hz : w.heap.size + 1 < w1.heap.size := by have := hb1.size; simp at this; omega
    have g1 : w1.cell? ⟨w.heap.size, 1, none⟩ = some (.int .i64 h) := by rw [hc _ _ (by simp <;> omega)]; go_simp
    have g2 : w1.cell? ⟨w.heap.size, 2, none⟩ = some (.int .i64 x) := by rw [hc _ _ (by simp <;> omega)]; go_simp
    have hz0 : w.heap.size < w1.heap.size := by omega
    clear hb1
    go_wp2_with fail
    exact bodyPost_ret (v := .tuple #[.agg #[.int .i64 0, .int .i64 0, .int .i64 0], .bool false]) (by simp [results, Try.results61, go_sem, hc]) rfl ⟨rfl, ((HB1.out.setCell (by simp) _).setCell (by simp) _).setCell (by simp) _⟩
  replace p2 : 1 ≤ size := by omega
  have v2 : decide (size < 1) = false := decide_eq_false (by omega)
  by_cases p3 : x < size
  · have v3 : decide (x < size) = true := decide_eq_true p3
    clear HF
    go_enter Try.func61, Try.ntmps61
    go_wp2_with fail
    refine (rright_yes c h x _ HR.out).mono ?_
    rintro e w1 ⟨rfl, hb1⟩
    have HB1 : Hid (Below w.heap.size w w1) := chain (by repeat first | exact Below.refl _ _ | refine chain_alloc ?_ _) hb1
    obtain ⟨hc, hf⟩ := bcell hb1
    have hz : w.heap.size + 1 < w1.heap.size := by have := hb1.size; simp at this; omega
    have g1 : w1.cell? ⟨w.heap.size, 1, none⟩ = some (.int .i64 h) := by rw [hc _ _ (by simp <;> omega)]; go_simp
    have g2 : w1.cell? ⟨w.heap.size, 2, none⟩ = some (.int .i64 x) := by rw [hc _ _ (by simp <;> omega)]; go_simp
    have hz0 : w.heap.size < w1.heap.size := by omega
    clear hb1
    go_wp2_with fail
    exact bodyPost_ret (v := .tuple #[.agg #[.int .i64 0, .int .i64 0, .int .i64 0], .bool false]) (by simp [results, Try.results61, go_sem, hc]) rfl ⟨rfl, ((HB1.out.setCell (by simp) _).setCell (by simp) _).setCell (by simp) _⟩
  replace p3 : size ≤ x := by omega
  have v3 : decide (x < size) = false := decide_eq_false (by omega)
  by_cases p4 : step < 1
  · have v4 : decide (step < 1) = true := decide_eq_true p4
    clear HF
    go_enter Try.func61, Try.ntmps61
    go_wp2_with fail
    refine (rright_yes c h x _ HR.out).mono ?_
    rintro e w1 ⟨rfl, hb1⟩
    have HB1 : Hid (Below w.heap.size w w1) := chain (by repeat first | exact Below.refl _ _ | refine chain_alloc ?_ _) hb1
    obtain ⟨hc, hf⟩ := bcell hb1
    have hz : w.heap.size + 1 < w1.heap.size := by have := hb1.size; simp at this; omega
    have g1 : w1.cell? ⟨w.heap.size, 1, none⟩ = some (.int .i64 h) := by rw [hc _ _ (by simp <;> omega)]; go_simp
    have g2 : w1.cell? ⟨w.heap.size, 2, none⟩ = some (.int .i64 x) := by rw [hc _ _ (by simp <;> omega)]; go_simp
    have hz0 : w.heap.size < w1.heap.size := by omega
    clear hb1
    go_wp2_with fail
    exact bodyPost_ret (v := .tuple #[.agg #[.int .i64 0, .int .i64 0, .int .i64 0], .bool false]) (by simp [results, Try.results61, go_sem, hc]) rfl ⟨rfl, ((HB1.out.setCell (by simp) _).setCell (by simp) _).setCell (by simp) _⟩
  replace p4 : 1 ≤ step := by omega
  have v4 : decide (step < 1) = false := decide_eq_false (by omega)
  by_cases p5 : 12 < step
  · have v5 : decide (12 < step) = true := decide_eq_true p5
    clear HF
    go_enter Try.func61, Try.ntmps61
    go_wp2_with fail
    refine (rright_yes c h x _ HR.out).mono ?_
    rintro e w1 ⟨rfl, hb1⟩
    have HB1 : Hid (Below w.heap.size w w1) := chain (by repeat first | exact Below.refl _ _ | refine chain_alloc ?_ _) hb1
    obtain ⟨hc, hf⟩ := bcell hb1
    have hz : w.heap.size + 1 < w1.heap.size := by have := hb1.size; simp at this; omega
    have g1 : w1.cell? ⟨w.heap.size, 1, none⟩ = some (.int .i64 h) := by rw [hc _ _ (by simp <;> omega)]; go_simp
    have g2 : w1.cell? ⟨w.heap.size, 2, none⟩ = some (.int .i64 x) := by rw [hc _ _ (by simp <;> omega)]; go_simp
    have hz0 : w.heap.size < w1.heap.size := by omega
    clear hb1
    go_wp2_with fail
    exact bodyPost_ret (v := .tuple #[.agg #[.int .i64 0, .int .i64 0, .int .i64 0], .bool false]) (by simp [results, Try.results61, go_sem, hc]) rfl ⟨rfl, ((HB1.out.setCell (by simp) _).setCell (by simp) _).setCell (by simp) _⟩
  replace p5 : step ≤ 12 := by omega
  have v5 : decide (12 < step) = false := decide_eq_false (by omega)
  exact absurd ⟨p0, p1, p2, p3, p4, p5⟩ HF.out
set_option maxHeartbeats 800000 in
theorem rconv_next_low (c h x out size step : Int) (w : World) (r : rightB c h x = true) (hm : h ≤ x) (o1 : 1 ≤ out) (o2 : out ≤ 8) (s1 : 1 ≤ size) (s2 : size ≤ h) (t1 : 1 ≤ step) (t2 : step ≤ 12)
    (n : rightB out ((h - size) / step + 1) ((x - size) / step + 1) = false) :
    Calls Try.prog 61 #[.agg #[.int .i64 c, .int .i64 h, .int .i64 x], .int .i64 out, .int .i64 size, .int .i64 step] w (Out 0 0 0 false w) := by
  obtain ⟨a1, a2, a3, a4, a5, a6, a7⟩ := rightB_out r
  obtain ⟨d1, d2⟩ := wins_bd a3 a4 s1 (by omega) t1
  obtain ⟨d3, d4⟩ := wins_bd a5 a6 s1 (by omega) t1
  have e1 : 0 ≤ h - size := by omega
  have e2 : 0 ≤ x - size := by omega
  have e3 : ¬ step = 0 := by omega
  have v1 : decide (out < 1) = false := decide_eq_false (by omega)
  have v2 : decide (8 < out) = false := decide_eq_false (by omega)
  have v3 : decide (size < 1) = false := decide_eq_false (by omega)
  have v4 : decide (h < size) = false := decide_eq_false (by omega)
  have v5 : decide (step < 1) = false := decide_eq_false (by omega)
  have v6 : decide (12 < step) = false := decide_eq_false (by omega)
  have HN := Lib.hid n; clear n
  have HR := Lib.hid r; clear r
  go_enter Try.func61, Try.ntmps61
  go_wp2_with fail
  refine (rright_yes c h x _ HR.out).mono ?_
  rintro e w1 ⟨rfl, hb1⟩
  have HB1 : Hid (Below w.heap.size w w1) := chain (by repeat first | exact Below.refl _ _ | refine chain_alloc ?_ _) hb1
  obtain ⟨hc, hf⟩ := bcell hb1
  have hz : w.heap.size + 1 < w1.heap.size := by have := hb1.size; simp at this; omega
  have g1 : w1.cell? ⟨w.heap.size, 1, none⟩ = some (.int .i64 h) := by rw [hc _ _ (by simp <;> omega)]; go_simp
  have g2 : w1.cell? ⟨w.heap.size, 2, none⟩ = some (.int .i64 x) := by rw [hc _ _ (by simp <;> omega)]; go_simp
  have hz0 : w.heap.size < w1.heap.size := by omega
  clear hb1
  go_wp2_with fail
  go_region
  go_wp2_with fail
  refine (rright_no out ((h - size) / step + 1) ((x - size) / step + 1) _ HN.out).mono ?_
  rintro e w2 ⟨rfl, hb2⟩
  have HB2 : Hid (Below w.heap.size w w2) := chain ((chain_alloc HB1.out _).drew) hb2
  have q1 : w2.heap.size > w1.heap.size := by have := hb2.size; simp at this; omega
  have k0 : ∀ o, w2.cell? ⟨w.heap.size + 1, o, none⟩ = w1.cell? ⟨w.heap.size + 1, o, none⟩ := fun o => by
    rw [hb2.cell (p := ⟨w.heap.size + 1, o, none⟩) (by show w.heap.size + 1 < _; simp; omega)]; go_simp
  have k1 : ∀ o, w2.frozen? ⟨w.heap.size + 1, o, none⟩ = w1.frozen? ⟨w.heap.size + 1, o, none⟩ := fun o => by
    rw [hb2.frozen (p := ⟨w.heap.size + 1, o, none⟩) (by show w.heap.size + 1 < _; simp; omega)]; go_simp
  have k2 : w2.cell? ⟨w1.heap.size, 0, none⟩ = some (.int .i64 out) := by
    rw [hb2.cell (p := ⟨w1.heap.size, 0, none⟩) (by show w1.heap.size < _; simp)]; go_simp
  have k3 : w2.cell? ⟨w1.heap.size, 1, none⟩ = some (.int .i64 ((h - size) / step + 1)) := by
    rw [hb2.cell (p := ⟨w1.heap.size, 1, none⟩) (by show w1.heap.size < _; simp)]; go_simp
  have k4 : w2.cell? ⟨w1.heap.size, 2, none⟩ = some (.int .i64 ((x - size) / step + 1)) := by
    rw [hb2.cell (p := ⟨w1.heap.size, 2, none⟩) (by show w1.heap.size < _; simp)]; go_simp
  clear hb2
  go_wp2_with fail
  exact bodyPost_ret (v := .tuple #[.agg #[.int .i64 0, .int .i64 0, .int .i64 0], .bool false]) (by simp [results, Try.results61, go_sem, k0, hc]) rfl ⟨rfl, ((HB2.out.setCell (by simp) _).setCell (by simp) _).setCell (by simp) _⟩
set_option maxHeartbeats 800000 in
theorem rconv_next_wide (c h x out size step : Int) (w : World) (r : rightB c h x = true) (hm : x < h) (o1 : 1 ≤ out) (o2 : out ≤ 8) (s1 : 1 ≤ size) (s2 : size ≤ x) (t1 : 1 ≤ step) (t2 : step ≤ 12)
    (n : rightB out ((h - size) / step + 1) ((x - size) / step + 1) = false) :
    Calls Try.prog 61 #[.agg #[.int .i64 c, .int .i64 h, .int .i64 x], .int .i64 out, .int .i64 size, .int .i64 step] w (Out 0 0 0 false w) := by
  obtain ⟨a1, a2, a3, a4, a5, a6, a7⟩ := rightB_out r
  obtain ⟨d1, d2⟩ := wins_bd a3 a4 s1 (by omega) t1
  obtain ⟨d3, d4⟩ := wins_bd a5 a6 s1 (by omega) t1
  have e1 : 0 ≤ h - size := by omega
  have e2 : 0 ≤ x - size := by omega
  have e3 : ¬ step = 0 := by omega
  have v1 : decide (out < 1) = false := decide_eq_false (by omega)
  have v2 : decide (8 < out) = false := decide_eq_false (by omega)
  have v3 : decide (size < 1) = false := decide_eq_false (by omega)
  have v4 : decide (x < size) = false := decide_eq_false (by omega)
  have v5 : decide (step < 1) = false := decide_eq_false (by omega)
  have v6 : decide (12 < step) = false := decide_eq_false (by omega)
  have HN := Lib.hid n; clear n
  have HR := Lib.hid r; clear r
  go_enter Try.func61, Try.ntmps61
  go_wp2_with fail
  refine (rright_yes c h x _ HR.out).mono ?_
  rintro e w1 ⟨rfl, hb1⟩
  have HB1 : Hid (Below w.heap.size w w1) := chain (by repeat first | exact Below.refl _ _ | refine chain_alloc ?_ _) hb1
  obtain ⟨hc, hf⟩ := bcell hb1
  have hz : w.heap.size + 1 < w1.heap.size := by have := hb1.size; simp at this; omega
  have g1 : w1.cell? ⟨w.heap.size, 1, none⟩ = some (.int .i64 h) := by rw [hc _ _ (by simp <;> omega)]; go_simp
  have g2 : w1.cell? ⟨w.heap.size, 2, none⟩ = some (.int .i64 x) := by rw [hc _ _ (by simp <;> omega)]; go_simp
  have hz0 : w.heap.size < w1.heap.size := by omega
  clear hb1
  go_wp2_with fail
  go_region
  go_wp2_with fail
  refine (rright_no out ((h - size) / step + 1) ((x - size) / step + 1) _ HN.out).mono ?_
  rintro e w2 ⟨rfl, hb2⟩
  have HB2 : Hid (Below w.heap.size w w2) := chain ((chain_alloc HB1.out _).drew) hb2
  have q1 : w2.heap.size > w1.heap.size := by have := hb2.size; simp at this; omega
  have k0 : ∀ o, w2.cell? ⟨w.heap.size + 1, o, none⟩ = w1.cell? ⟨w.heap.size + 1, o, none⟩ := fun o => by
    rw [hb2.cell (p := ⟨w.heap.size + 1, o, none⟩) (by show w.heap.size + 1 < _; simp; omega)]; go_simp
  have k1 : ∀ o, w2.frozen? ⟨w.heap.size + 1, o, none⟩ = w1.frozen? ⟨w.heap.size + 1, o, none⟩ := fun o => by
    rw [hb2.frozen (p := ⟨w.heap.size + 1, o, none⟩) (by show w.heap.size + 1 < _; simp; omega)]; go_simp
  have k2 : w2.cell? ⟨w1.heap.size, 0, none⟩ = some (.int .i64 out) := by
    rw [hb2.cell (p := ⟨w1.heap.size, 0, none⟩) (by show w1.heap.size < _; simp)]; go_simp
  have k3 : w2.cell? ⟨w1.heap.size, 1, none⟩ = some (.int .i64 ((h - size) / step + 1)) := by
    rw [hb2.cell (p := ⟨w1.heap.size, 1, none⟩) (by show w1.heap.size < _; simp)]; go_simp
  have k4 : w2.cell? ⟨w1.heap.size, 2, none⟩ = some (.int .i64 ((x - size) / step + 1)) := by
    rw [hb2.cell (p := ⟨w1.heap.size, 2, none⟩) (by show w1.heap.size < _; simp)]; go_simp
  clear hb2
  go_wp2_with fail
  exact bodyPost_ret (v := .tuple #[.agg #[.int .i64 0, .int .i64 0, .int .i64 0], .bool false]) (by simp [results, Try.results61, go_sem, k0, hc]) rfl ⟨rfl, ((HB2.out.setCell (by simp) _).setCell (by simp) _).setCell (by simp) _⟩
set_option maxHeartbeats 800000 in
theorem rconv_good_low (c h x out size step : Int) (w : World) (r : rightB c h x = true) (hm : h ≤ x) (o1 : 1 ≤ out) (o2 : out ≤ 8) (s1 : 1 ≤ size) (s2 : size ≤ h) (t1 : 1 ≤ step) (t2 : step ≤ 12)
    (n : rightB out ((h - size) / step + 1) ((x - size) / step + 1) = true) :
    Calls Try.prog 61 #[.agg #[.int .i64 c, .int .i64 h, .int .i64 x], .int .i64 out, .int .i64 size, .int .i64 step] w (Out out ((h - size) / step + 1) ((x - size) / step + 1) true w) := by
  obtain ⟨a1, a2, a3, a4, a5, a6, a7⟩ := rightB_out r
  obtain ⟨d1, d2⟩ := wins_bd a3 a4 s1 (by omega) t1
  obtain ⟨d3, d4⟩ := wins_bd a5 a6 s1 (by omega) t1
  have e1 : 0 ≤ h - size := by omega
  have e2 : 0 ≤ x - size := by omega
  have e3 : ¬ step = 0 := by omega
  have v1 : decide (out < 1) = false := decide_eq_false (by omega)
  have v2 : decide (8 < out) = false := decide_eq_false (by omega)
  have v3 : decide (size < 1) = false := decide_eq_false (by omega)
  have v4 : decide (h < size) = false := decide_eq_false (by omega)
  have v5 : decide (step < 1) = false := decide_eq_false (by omega)
  have v6 : decide (12 < step) = false := decide_eq_false (by omega)
  have HN := Lib.hid n; clear n
  have HR := Lib.hid r; clear r
  go_enter Try.func61, Try.ntmps61
  go_wp2_with fail
  refine (rright_yes c h x _ HR.out).mono ?_
  rintro e w1 ⟨rfl, hb1⟩
  have HB1 : Hid (Below w.heap.size w w1) := chain (by repeat first | exact Below.refl _ _ | refine chain_alloc ?_ _) hb1
  obtain ⟨hc, hf⟩ := bcell hb1
  have hz : w.heap.size + 1 < w1.heap.size := by have := hb1.size; simp at this; omega
  have g1 : w1.cell? ⟨w.heap.size, 1, none⟩ = some (.int .i64 h) := by rw [hc _ _ (by simp <;> omega)]; go_simp
  have g2 : w1.cell? ⟨w.heap.size, 2, none⟩ = some (.int .i64 x) := by rw [hc _ _ (by simp <;> omega)]; go_simp
  have hz0 : w.heap.size < w1.heap.size := by omega
  clear hb1
  go_wp2_with fail
  go_region
  go_wp2_with fail
  refine (rright_yes out ((h - size) / step + 1) ((x - size) / step + 1) _ HN.out).mono ?_
  rintro e w2 ⟨rfl, hb2⟩
  have HB2 : Hid (Below w.heap.size w w2) := chain ((chain_alloc HB1.out _).drew) hb2
  have q1 : w2.heap.size > w1.heap.size := by have := hb2.size; simp at this; omega
  have k0 : ∀ o, w2.cell? ⟨w.heap.size + 1, o, none⟩ = w1.cell? ⟨w.heap.size + 1, o, none⟩ := fun o => by
    rw [hb2.cell (p := ⟨w.heap.size + 1, o, none⟩) (by show w.heap.size + 1 < _; simp; omega)]; go_simp
  have k1 : ∀ o, w2.frozen? ⟨w.heap.size + 1, o, none⟩ = w1.frozen? ⟨w.heap.size + 1, o, none⟩ := fun o => by
    rw [hb2.frozen (p := ⟨w.heap.size + 1, o, none⟩) (by show w.heap.size + 1 < _; simp; omega)]; go_simp
  have k2 : w2.cell? ⟨w1.heap.size, 0, none⟩ = some (.int .i64 out) := by
    rw [hb2.cell (p := ⟨w1.heap.size, 0, none⟩) (by show w1.heap.size < _; simp)]; go_simp
  have k3 : w2.cell? ⟨w1.heap.size, 1, none⟩ = some (.int .i64 ((h - size) / step + 1)) := by
    rw [hb2.cell (p := ⟨w1.heap.size, 1, none⟩) (by show w1.heap.size < _; simp)]; go_simp
  have k4 : w2.cell? ⟨w1.heap.size, 2, none⟩ = some (.int .i64 ((x - size) / step + 1)) := by
    rw [hb2.cell (p := ⟨w1.heap.size, 2, none⟩) (by show w1.heap.size < _; simp)]; go_simp
  clear hb2
  go_wp2_with fail
  exact bodyPost_ret (v := .tuple #[.agg #[.int .i64 out, .int .i64 ((h - size) / step + 1), .int .i64 ((x - size) / step + 1)], .bool true]) (by simp [results, Try.results61, go_sem, k0, hc]) rfl ⟨rfl, ((HB2.out.setCell (by simp) _).setCell (by simp) _).setCell (by simp) _⟩
set_option maxHeartbeats 800000 in
theorem rconv_good_wide (c h x out size step : Int) (w : World) (r : rightB c h x = true) (hm : x < h) (o1 : 1 ≤ out) (o2 : out ≤ 8) (s1 : 1 ≤ size) (s2 : size ≤ x) (t1 : 1 ≤ step) (t2 : step ≤ 12)
    (n : rightB out ((h - size) / step + 1) ((x - size) / step + 1) = true) :
    Calls Try.prog 61 #[.agg #[.int .i64 c, .int .i64 h, .int .i64 x], .int .i64 out, .int .i64 size, .int .i64 step] w (Out out ((h - size) / step + 1) ((x - size) / step + 1) true w) := by
  obtain ⟨a1, a2, a3, a4, a5, a6, a7⟩ := rightB_out r
  obtain ⟨d1, d2⟩ := wins_bd a3 a4 s1 (by omega) t1
  obtain ⟨d3, d4⟩ := wins_bd a5 a6 s1 (by omega) t1
  have e1 : 0 ≤ h - size := by omega
  have e2 : 0 ≤ x - size := by omega
  have e3 : ¬ step = 0 := by omega
  have v1 : decide (out < 1) = false := decide_eq_false (by omega)
  have v2 : decide (8 < out) = false := decide_eq_false (by omega)
  have v3 : decide (size < 1) = false := decide_eq_false (by omega)
  have v4 : decide (x < size) = false := decide_eq_false (by omega)
  have v5 : decide (step < 1) = false := decide_eq_false (by omega)
  have v6 : decide (12 < step) = false := decide_eq_false (by omega)
  have HN := Lib.hid n; clear n
  have HR := Lib.hid r; clear r
  go_enter Try.func61, Try.ntmps61
  go_wp2_with fail
  refine (rright_yes c h x _ HR.out).mono ?_
  rintro e w1 ⟨rfl, hb1⟩
  have HB1 : Hid (Below w.heap.size w w1) := chain (by repeat first | exact Below.refl _ _ | refine chain_alloc ?_ _) hb1
  obtain ⟨hc, hf⟩ := bcell hb1
  have hz : w.heap.size + 1 < w1.heap.size := by have := hb1.size; simp at this; omega
  have g1 : w1.cell? ⟨w.heap.size, 1, none⟩ = some (.int .i64 h) := by rw [hc _ _ (by simp <;> omega)]; go_simp
  have g2 : w1.cell? ⟨w.heap.size, 2, none⟩ = some (.int .i64 x) := by rw [hc _ _ (by simp <;> omega)]; go_simp
  have hz0 : w.heap.size < w1.heap.size := by omega
  clear hb1
  go_wp2_with fail
  go_region
  go_wp2_with fail
  refine (rright_yes out ((h - size) / step + 1) ((x - size) / step + 1) _ HN.out).mono ?_
  rintro e w2 ⟨rfl, hb2⟩
  have HB2 : Hid (Below w.heap.size w w2) := chain ((chain_alloc HB1.out _).drew) hb2
  have q1 : w2.heap.size > w1.heap.size := by have := hb2.size; simp at this; omega
  have k0 : ∀ o, w2.cell? ⟨w.heap.size + 1, o, none⟩ = w1.cell? ⟨w.heap.size + 1, o, none⟩ := fun o => by
    rw [hb2.cell (p := ⟨w.heap.size + 1, o, none⟩) (by show w.heap.size + 1 < _; simp; omega)]; go_simp
  have k1 : ∀ o, w2.frozen? ⟨w.heap.size + 1, o, none⟩ = w1.frozen? ⟨w.heap.size + 1, o, none⟩ := fun o => by
    rw [hb2.frozen (p := ⟨w.heap.size + 1, o, none⟩) (by show w.heap.size + 1 < _; simp; omega)]; go_simp
  have k2 : w2.cell? ⟨w1.heap.size, 0, none⟩ = some (.int .i64 out) := by
    rw [hb2.cell (p := ⟨w1.heap.size, 0, none⟩) (by show w1.heap.size < _; simp)]; go_simp
  have k3 : w2.cell? ⟨w1.heap.size, 1, none⟩ = some (.int .i64 ((h - size) / step + 1)) := by
    rw [hb2.cell (p := ⟨w1.heap.size, 1, none⟩) (by show w1.heap.size < _; simp)]; go_simp
  have k4 : w2.cell? ⟨w1.heap.size, 2, none⟩ = some (.int .i64 ((x - size) / step + 1)) := by
    rw [hb2.cell (p := ⟨w1.heap.size, 2, none⟩) (by show w1.heap.size < _; simp)]; go_simp
  clear hb2
  go_wp2_with fail
  exact bodyPost_ret (v := .tuple #[.agg #[.int .i64 out, .int .i64 ((h - size) / step + 1), .int .i64 ((x - size) / step + 1)], .bool true]) (by simp [results, Try.results61, go_sem, k0, hc]) rfl ⟨rfl, ((HB2.out.setCell (by simp) _).setCell (by simp) _).setCell (by simp) _⟩
theorem rconv_any (c h x out size step : Int) (w : World) :
    Calls Try.prog 61 #[.agg #[.int .i64 c, .int .i64 h, .int .i64 x], .int .i64 out, .int .i64 size, .int .i64 step] w (Out (convC c h x out size step) (convH c h x out size step) (convW c h x out size step) (convB c h x out size step) w) := by
  cases f : convB c h x out size step
  · have n := conv_none f
    rw [n.1, n.2.1, n.2.2]
    cases r : rightB c h x
    · exact rconv_wrong c h x out size step w r
    by_cases g : 1 ≤ out ∧ out ≤ 8 ∧ 1 ≤ size ∧ size ≤ min h x ∧ 1 ≤ step ∧ step ≤ 12
    · obtain ⟨o1, o2, s1, s2, t1, t2⟩ := g
      cases n : rightB out ((h - size) / step + 1) ((x - size) / step + 1)
      · by_cases hm : h ≤ x
        · exact rconv_next_low c h x out size step w r hm o1 o2 s1 (by omega) t1 t2 n
        · exact rconv_next_wide c h x out size step w r (by omega) o1 o2 s1 (by omega) t1 t2 n
      · rw [convB_yes ⟨r, o1, o2, s1, s2, t1, t2, n⟩] at f
        cases f
    · by_cases hm : h ≤ x
      · exact rconv_bad_low c h x out size step w r hm (by omega)
      · exact rconv_bad_wide c h x out size step w r (by omega) (by omega)
  · obtain ⟨r, o1, o2, s1, s2, t1, t2, n⟩ := convB_out f
    have k := conv_is f
    rw [k.1, k.2.1, k.2.2]
    by_cases hm : h ≤ x
    · exact rconv_good_low c h x out size step w r hm o1 o2 s1 (by omega) t1 t2 n
    · exact rconv_good_wide c h x out size step w r (by omega) o1 o2 s1 (by omega) t1 t2 n

end Go.Proofs.Ytklgjhldebdegaa

namespace Go.Proofs.Ytklgjhldebdegaa
open Go.RowKit

theorem below_threeB (w : World) (a b d : Obj) : Below w.heap.size w (((w.alloc a).alloc b).alloc d) := by
  repeat first | exact Below.refl _ _ | refine chain_alloc ?_ _
theorem cell_three (w : World) (a b : Obj) (u v z : Value) (T : Nat) (w1 : World) (hb : Below (((w.alloc a).alloc b).alloc (.cells #[u, v, z] T)).heap.size (((w.alloc a).alloc b).alloc (.cells #[u, v, z] T)) w1) :
    w1.cell? ⟨w.heap.size + 1 + 1, 0, none⟩ = some u ∧ w1.cell? ⟨w.heap.size + 1 + 1, 1, none⟩ = some v ∧ w1.cell? ⟨w.heap.size + 1 + 1, 2, none⟩ = some z ∧ (∀ k, w1.frozen? ⟨w.heap.size + 1 + 1, k, none⟩ = false) ∧ w.heap.size + 1 + 1 < w1.heap.size := by
  have e : ((w.alloc a).alloc b).heap.size = w.heap.size + 1 + 1 := by simp
  have g := hb.block (w.heap.size + 1 + 1) (by simp)
  have h0 := heap_alloc_new ((w.alloc a).alloc b) (.cells #[u, v, z] T)
  rw [e] at h0
  rw [h0] at g
  refine ⟨?_, ?_, ?_, fun k => ?_, ?_⟩
  · rw [Lib.cell_of_heap g]; rfl
  · rw [Lib.cell_of_heap g]; rfl
  · rw [Lib.cell_of_heap g]; rfl
  · have := hb.frozen (p := ⟨w.heap.size + 1 + 1, k, none⟩) (by show w.heap.size + 1 + 1 < _; simp)
    rw [this]; go_simp
  · exact (Array.getElem?_eq_some_iff.1 g).1

set_option maxHeartbeats 1000000 in
theorem rout_conv (o s t c h x : Int) (w : World) :
    Calls Try.prog 42 #[.agg #[.int .i64 c, .int .i64 h, .int .i64 x], .agg #[.int .i64 1, .int .i64 o, .int .i64 s, .int .i64 t]] w (Out (convC c h x o s t) (convH c h x o s t) (convW c h x o s t) (convB c h x o s t) w) := by
  obtain ⟨a, ha⟩ : ∃ a, a = convC c h x o s t := ⟨_, rfl⟩
  obtain ⟨b, hb⟩ : ∃ b, b = convH c h x o s t := ⟨_, rfl⟩
  obtain ⟨d, hd⟩ : ∃ d, d = convW c h x o s t := ⟨_, rfl⟩
  obtain ⟨r, hr⟩ : ∃ r, r = convB c h x o s t := ⟨_, rfl⟩
  have HC : Hid (∀ w, Calls Try.prog 61 #[.agg #[.int .i64 c, .int .i64 h, .int .i64 x], .int .i64 o, .int .i64 s, .int .i64 t] w (Out a b d r w)) := fun w => by
    rw [ha, hb, hd, hr]; exact rconv_any c h x o s t w
  rw [← ha, ← hb, ← hd, ← hr]
  clear ha hb hd hr
  go_enter Try.func42, Try.ntmps42
  go_wp2_with fail
  refine (HC.out _).mono ?_
  rintro e w1 ⟨rfl, hb⟩
  obtain ⟨q0, q1, q2, fz, hz⟩ := cell_three w _ _ _ _ _ _ w1 hb
  have f0 := fz 0
  have f1 := fz 1
  have f2 := fz 2
  have HB := Lib.hid (chain (below_threeB w _ _ _) hb)
  clear hb fz
  go_wp2_with fail
  exact bodyPost_ret (v := .tuple #[.agg #[.int .i64 a, .int .i64 b, .int .i64 d], .bool r]) (by simp [results, Try.results42, go_sem, q0, q1, q2]) rfl ⟨rfl, ((HB.out.setCell (p := ⟨w.heap.size + 1 + 1, 0, none⟩) (by show w.heap.size ≤ w.heap.size + 1 + 1; omega) _).setCell (p := ⟨w.heap.size + 1 + 1, 1, none⟩) (by show w.heap.size ≤ w.heap.size + 1 + 1; omega) _).setCell (p := ⟨w.heap.size + 1 + 1, 2, none⟩) (by show w.heap.size ≤ w.heap.size + 1 + 1; omega) _⟩

set_option maxHeartbeats 1000000 in
theorem rout_pool (o s t c h x : Int) (w : World) :
    Calls Try.prog 42 #[.agg #[.int .i64 c, .int .i64 h, .int .i64 x], .agg #[.int .i64 3, .int .i64 o, .int .i64 s, .int .i64 t]] w (Out (poolC c h x s) (poolH c h x s) (poolW c h x s) (poolB c h x s) w) := by
  obtain ⟨a, ha⟩ : ∃ a, a = poolC c h x s := ⟨_, rfl⟩
  obtain ⟨b, hb⟩ : ∃ b, b = poolH c h x s := ⟨_, rfl⟩
  obtain ⟨d, hd⟩ : ∃ d, d = poolW c h x s := ⟨_, rfl⟩
  obtain ⟨r, hr⟩ : ∃ r, r = poolB c h x s := ⟨_, rfl⟩
  have HC : Hid (∀ w, Calls Try.prog 62 #[.agg #[.int .i64 c, .int .i64 h, .int .i64 x], .int .i64 s] w (Out a b d r w)) := fun w => by
    rw [ha, hb, hd, hr]; exact rpool_any c h x s w
  rw [← ha, ← hb, ← hd, ← hr]
  clear ha hb hd hr
  go_enter Try.func42, Try.ntmps42
  go_wp2_with fail
  refine (HC.out _).mono ?_
  rintro e w1 ⟨rfl, hb⟩
  obtain ⟨q0, q1, q2, fz, hz⟩ := cell_three w _ _ _ _ _ _ w1 hb
  have f0 := fz 0
  have f1 := fz 1
  have f2 := fz 2
  have HB := Lib.hid (chain (below_threeB w _ _ _) hb)
  clear hb fz
  go_wp2_with fail
  exact bodyPost_ret (v := .tuple #[.agg #[.int .i64 a, .int .i64 b, .int .i64 d], .bool r]) (by simp [results, Try.results42, go_sem, q0, q1, q2]) rfl ⟨rfl, ((HB.out.setCell (p := ⟨w.heap.size + 1 + 1, 0, none⟩) (by show w.heap.size ≤ w.heap.size + 1 + 1; omega) _).setCell (p := ⟨w.heap.size + 1 + 1, 1, none⟩) (by show w.heap.size ≤ w.heap.size + 1 + 1; omega) _).setCell (p := ⟨w.heap.size + 1 + 1, 2, none⟩) (by show w.heap.size ≤ w.heap.size + 1 + 1; omega) _⟩

set_option maxHeartbeats 1000000 in
theorem rout_square (o s t c h x : Int) (w : World) :
    Calls Try.prog 42 #[.agg #[.int .i64 c, .int .i64 h, .int .i64 x], .agg #[.int .i64 2, .int .i64 o, .int .i64 s, .int .i64 t]] w (Out c h x true w) := by
  go_enter Try.func42, Try.ntmps42
  go_wp2_with fail
  exact bodyPost_ret (v := .tuple #[.agg #[.int .i64 c, .int .i64 h, .int .i64 x], .bool true]) (by simp [results, Try.results42, go_sem]) rfl ⟨rfl, by repeat first | exact Below.refl _ _ | refine chain_alloc ?_ _⟩
set_option maxHeartbeats 1000000 in
theorem rout_dense (o s t c h x : Int) (w : World) (o1 : 1 ≤ o) (o2 : o ≤ 8) :
    Calls Try.prog 42 #[.agg #[.int .i64 c, .int .i64 h, .int .i64 x], .agg #[.int .i64 4, .int .i64 o, .int .i64 s, .int .i64 t]] w (Out o 1 1 true w) := by
  go_enter Try.func42, Try.ntmps42
  go_wp2_with fail
  exact bodyPost_ret (v := .tuple #[.agg #[.int .i64 o, .int .i64 1, .int .i64 1], .bool true]) (by simp [results, Try.results42, go_sem]) rfl ⟨rfl, by repeat first | exact Below.refl _ _ | refine chain_alloc ?_ _⟩
set_option maxHeartbeats 1000000 in
theorem rout_low (o s t c h x : Int) (w : World) (o1 : o < 1) :
    Calls Try.prog 42 #[.agg #[.int .i64 c, .int .i64 h, .int .i64 x], .agg #[.int .i64 4, .int .i64 o, .int .i64 s, .int .i64 t]] w (Out 0 0 0 false w) := by
  go_enter Try.func42, Try.ntmps42
  go_wp2_with fail
  exact bodyPost_ret (v := .tuple #[.agg #[.int .i64 0, .int .i64 0, .int .i64 0], .bool false]) (by simp [results, Try.results42, go_sem]) rfl ⟨rfl, by repeat first | exact Below.refl _ _ | refine chain_alloc ?_ _⟩
set_option maxHeartbeats 1000000 in
theorem rout_high (o s t c h x : Int) (w : World) (o1 : 8 < o) (o2 : 1 ≤ o) :
    Calls Try.prog 42 #[.agg #[.int .i64 c, .int .i64 h, .int .i64 x], .agg #[.int .i64 4, .int .i64 o, .int .i64 s, .int .i64 t]] w (Out 0 0 0 false w) := by
  go_enter Try.func42, Try.ntmps42
  go_wp2_with fail
  exact bodyPost_ret (v := .tuple #[.agg #[.int .i64 0, .int .i64 0, .int .i64 0], .bool false]) (by simp [results, Try.results42, go_sem]) rfl ⟨rfl, by repeat first | exact Below.refl _ _ | refine chain_alloc ?_ _⟩

theorem dense_ok {o : Int} : rightB o 1 1 = true ↔ 1 ≤ o ∧ o ≤ 8 := by
  constructor
  · intro h; obtain ⟨a, b, _⟩ := rightB_out h; exact ⟨a, b⟩
  · rintro ⟨a, b⟩; exact rightB_yes ⟨a, b, by omega, by omega, by omega, by omega, by omega⟩
/-- The document's own out. -/
theorem rout_any (S : Sh) (l : Ly) (T : Sh) (r : Bool) (hl : lyB l = true) (hr : okS S l = r) (hT : r = true → T = outS S l) (w : World) :
    Calls Try.prog 42 #[.agg #[.int .i64 S.c, .int .i64 S.h, .int .i64 S.x], .agg #[.int .i64 l.k, .int .i64 l.o, .int .i64 l.s, .int .i64 l.t]] w fun e w' =>
      ∃ U : Sh, (r = true → U = T) ∧ e = .returned (.tuple #[.agg #[.int .i64 U.c, .int .i64 U.h, .int .i64 U.x], .bool r]) ∧ Below w.heap.size w w' := by
  obtain ⟨k, o, s, t⟩ := l
  rcases ly_kind hl with hk | hk | hk | hk
  · obtain ⟨e1, e2⟩ := out_conv S hk
    obtain rfl : k = 1 := hk
    rw [e2] at hr
    refine (rout_conv o s t S.c S.h S.x w).mono ?_
    rintro e w' ⟨he, hb⟩
    refine ⟨outS S ⟨1, o, s, t⟩, fun h => (hT h).symm, ?_, hb⟩
    rw [he, ← hr, e1]
  · obtain ⟨e1, e2⟩ := out_square S hk
    obtain rfl : k = 2 := hk
    rw [e2] at hr
    refine (rout_square o s t S.c S.h S.x w).mono ?_
    rintro e w' ⟨he, hb⟩
    refine ⟨S, fun h => ?_, ?_, hb⟩
    · rw [hT h, e1]
    · rw [he, ← hr]
  · obtain ⟨e1, e2⟩ := out_pool S hk
    obtain rfl : k = 3 := hk
    rw [e2] at hr
    refine (rout_pool o s t S.c S.h S.x w).mono ?_
    rintro e w' ⟨he, hb⟩
    refine ⟨outS S ⟨3, o, s, t⟩, fun h => (hT h).symm, ?_, hb⟩
    rw [he, ← hr, e1]
  · obtain ⟨e1, e2⟩ := out_dense S hk
    obtain rfl : k = 4 := hk
    rw [e2] at hr
    have hr : rightB o 1 1 = r := hr
    by_cases p : 1 ≤ o ∧ o ≤ 8
    · rw [dense_ok.2 p] at hr
      refine (rout_dense o s t S.c S.h S.x w p.1 p.2).mono ?_
      rintro e w' ⟨he, hb⟩
      refine ⟨⟨o, 1, 1⟩, fun h => ?_, ?_, hb⟩
      · rw [hT h, e1]
      · rw [he, ← hr]
    · have hr0 : r = false := by
        cases r
        · rfl
        · exact absurd (dense_ok.1 hr) p
      by_cases q : o < 1
      · refine (rout_low o s t S.c S.h S.x w q).mono ?_
        rintro e w' ⟨he, hb⟩
        exact ⟨⟨0, 0, 0⟩, (fun h => by rw [hr0] at h; cases h), by rw [he, hr0], hb⟩
      · refine (rout_high o s t S.c S.h S.x w (by omega) (by omega)).mono ?_
        rintro e w' ⟨he, hb⟩
        exact ⟨⟨0, 0, 0⟩, (fun h => by rw [hr0] at h; cases h), by rw [he, hr0], hb⟩

set_option maxHeartbeats 1000000 in
theorem rweights_conv (o s t c h x : Int) (w : World) (o0 : 0 ≤ o) (o1 : o ≤ 8) (c0 : 0 ≤ c) (c1 : c ≤ 8) (s0 : 0 ≤ s) (s1 : s ≤ 12) :
    Calls Try.prog 43 #[.agg #[.int .i64 c, .int .i64 h, .int .i64 x], .agg #[.int .i64 1, .int .i64 o, .int .i64 s, .int .i64 t]] w fun e w' => e = .returned (.int .i64 (o * c * s * s)) ∧ Below w.heap.size w w' := by
  obtain ⟨b1, b2, b3, b4, b5, b6⟩ := conv_small o0 o1 c0 c1 s0 s1
  go_enter Try.func43, Try.ntmps43
  go_wp2
  go_ret
  exact ⟨rfl, by repeat first | exact Below.refl _ _ | refine chain_alloc ?_ _⟩
theorem rsize_is (c h x n : Int) (e : sizeI c h x = n) (w : World) :
    Calls Try.prog 63 #[.agg #[.int .i64 c, .int .i64 h, .int .i64 x]] w fun e w' => e = .returned (.int .i64 n) ∧ Below w.heap.size w w' := by
  have := rsize_any c h x w
  rwa [e] at this
set_option maxHeartbeats 1000000 in
theorem rweights_dense (o s t c h x : Int) (w : World) (o0 : 0 ≤ o) (o1 : o ≤ 8) :
    Calls Try.prog 43 #[.agg #[.int .i64 c, .int .i64 h, .int .i64 x], .agg #[.int .i64 4, .int .i64 o, .int .i64 s, .int .i64 t]] w fun e w' => e = .returned (.int .i64 (o * sizeI c h x)) ∧ Below w.heap.size w w' := by
  obtain ⟨n, hn⟩ : ∃ n, n = sizeI c h x := ⟨_, rfl⟩
  have hb : 0 ≤ n ∧ n ≤ 128 := by rw [hn]; exact sizeI_bd c h x
  obtain ⟨n0, n1⟩ := hb
  have HN := Lib.hid hn
  clear hn
  rw [← HN.out]
  obtain ⟨m0, m1⟩ := mul_bd o0 o1 n0 n1
  have m2 : o * n ≤ 1024 := by omega
  have V : Hid (IntKind.i64.wrap (o * n) = o * n) := IntWalk.i64_in _ (by omega)
  clear m1
  obtain ⟨W, hW⟩ : ∃ W, W = (w.alloc (.cells #[.int .i64 c, .int .i64 h, .int .i64 x] 23)).alloc (.cells #[.int .i64 4, .int .i64 o, .int .i64 s, .int .i64 t] 39) := ⟨_, rfl⟩
  have HBW : Hid (Below w.heap.size w W) := by rw [hW]; exact (by repeat first | exact Below.refl _ _ | refine chain_alloc ?_ _)
  have a0 : W.cell? ⟨w.heap.size, 0, none⟩ = some (.int .i64 c) := by rw [hW]; go_simp
  have a1 : W.cell? ⟨w.heap.size, 1, none⟩ = some (.int .i64 h) := by rw [hW]; go_simp
  have a2 : W.cell? ⟨w.heap.size, 2, none⟩ = some (.int .i64 x) := by rw [hW]; go_simp
  have a3 : W.cell? ⟨w.heap.size + 1, 1, none⟩ = some (.int .i64 o) := by rw [hW]; go_simp
  have hWl : w.heap.size < W.heap.size := by rw [hW]; simp; omega
  have hWm : w.heap.size + 1 < W.heap.size := by rw [hW]; simp
  go_enter Try.func43, Try.ntmps43
  go_wp2_with fail
  rw [← hW]
  clear hW
  have HC0 : Hid (Below W.heap.size W W.drew) := below_drew W
  have tok1 : True := trivial
  go_region_held3 (fun w' => w'.cell? ⟨w.heap.size, 0, none⟩ = some (.int .i64 c) ∧ w'.cell? ⟨w.heap.size, 1, none⟩ = some (.int .i64 h) ∧ w'.cell? ⟨w.heap.size, 2, none⟩ = some (.int .i64 x) ∧ w'.cell? ⟨w.heap.size + 1, 1, none⟩ = some (.int .i64 o))
    (first | exact ⟨q0, q1, q2, q3⟩ | go_keep)
    (first
      | ((have _t := tok1; clear tok1; go_at_call 63; (with_reducible refine (rsize_is c h x n HN.out.symm _).mono ?_); rintro e w1 ⟨rfl, hb1⟩
          have HC1 := Lib.hid (HC0.out.trans (hb1.mono HC0.out.size))
          have q0 := (HC1.out.cell (p := ⟨w.heap.size, 0, none⟩) hWl).trans a0
          have q1 := (HC1.out.cell (p := ⟨w.heap.size, 1, none⟩) hWl).trans a1
          have q2 := (HC1.out.cell (p := ⟨w.heap.size, 2, none⟩) hWl).trans a2
          have q3 := (HC1.out.cell (p := ⟨w.heap.size + 1, 1, none⟩) hWm).trans a3
          clear hb1))
      | fail)
  go_wp2_with fail
  go_ret
  exact ⟨ret_int V.out, HBW.out.trans (HC1.out.mono HBW.out.size)⟩
set_option maxHeartbeats 1000000 in
theorem rweights_none (k o s t c h x : Int) (w : World) (k1 : (k == 1) = false) (k4 : (k == 4) = false) :
    Calls Try.prog 43 #[.agg #[.int .i64 c, .int .i64 h, .int .i64 x], .agg #[.int .i64 k, .int .i64 o, .int .i64 s, .int .i64 t]] w fun e w' => e = .returned (.int .i64 0) ∧ Below w.heap.size w w' := by
  go_enter Try.func43, Try.ntmps43
  go_wp2
  go_ret
  exact ⟨rfl, by repeat first | exact Below.refl _ _ | refine chain_alloc ?_ _⟩
/-- The document's own weights. -/
theorem rweights_any (S : Sh) (l : Ly) (u : Sh) (a : Int) (n : Int) (hk : KnOk ⟨l, S, u, a⟩) (hn : wI S l = n) (w : World) :
    Calls Try.prog 43 #[.agg #[.int .i64 S.c, .int .i64 S.h, .int .i64 S.x], .agg #[.int .i64 l.k, .int .i64 l.o, .int .i64 l.s, .int .i64 l.t]] w fun e w' => e = .returned (.int .i64 n) ∧ Below w.heap.size w w' := by
  subst hn
  obtain ⟨k, o, s, t⟩ := l
  by_cases k1 : k = 1
  · subst k1
    obtain ⟨a1, a2, a3, a4, a5, a6, _⟩ := hk.1 rfl
    rw [w_conv _ rfl]
    exact rweights_conv o s t S.c S.h S.x w a1 a2 a3 a4 a5 a6
  · by_cases k4 : k = 4
    · subst k4
      obtain ⟨a1, a2⟩ := hk.2 rfl
      rw [w_dense _ rfl]
      exact rweights_dense o s t S.c S.h S.x w a1 a2
    · rw [w_none (l := ⟨k, o, s, t⟩) _ k1 k4]
      exact rweights_none k o s t S.c S.h S.x w (ne_beq k1) (ne_beq k4)

end Go.Proofs.Ytklgjhldebdegaa

namespace Go.Proofs.Ytklgjhldebdegaa
open Go.RowKit

set_option maxHeartbeats 2000000 in
theorem rproducts_conv (o s t c h x a b d u : Int) (n : Int) (w : World) (hn : wI ⟨c, h, x⟩ ⟨1, o, s, t⟩ = n) (ok : KnOk ⟨⟨1, o, s, t⟩, ⟨c, h, x⟩, ⟨a, b, d⟩, u⟩) :
    Calls Try.prog 44 #[.agg #[.int .i64 c, .int .i64 h, .int .i64 x], .agg #[.int .i64 a, .int .i64 b, .int .i64 d], .agg #[.int .i64 1, .int .i64 o, .int .i64 s, .int .i64 t]] w fun e w' => e = .returned (.int .i64 (n * b * d)) ∧ Below w.heap.size w w' := by
  have hw := ok.w
  unfold Kn.w at hw
  rw [show wI (Kn.i _) (Kn.l _) = wI ⟨c, h, x⟩ ⟨1, o, s, t⟩ from rfl, hn] at hw
  obtain ⟨n0, n1⟩ := hw
  obtain ⟨_, _, _, _, _, _, z1, z2, z3, z4⟩ := ok.1 rfl
  have z1 : 0 ≤ b := z1
  have z2 : b ≤ 12 := z2
  have z3 : 0 ≤ d := z3
  have z4 : d ≤ 12 := z4
  obtain ⟨b1, b2⟩ := mul_bd n0 n1 z1 z2
  obtain ⟨b3, b4⟩ := mul_bd b1 b2 z3 z4
  have b2 : n * b ≤ 110592 := by omega
  have b4 : n * b * d ≤ 1327104 := by omega
  have V : Hid (IntKind.i64.wrap (IntKind.i64.wrap (n * b) * d) = n * b * d) := by
    show _ = _
    rw [IntWalk.i64_in (n * b) (by omega), IntWalk.i64_in _ (by omega)]
  have HCall : Hid (∀ w, Calls Try.prog 43 #[.agg #[.int .i64 c, .int .i64 h, .int .i64 x], .agg #[.int .i64 1, .int .i64 o, .int .i64 s, .int .i64 t]] w fun e w' => e = .returned (.int .i64 n) ∧ Below w.heap.size w w') := fun w => rweights_any ⟨c, h, x⟩ ⟨1, o, s, t⟩ _ _ n ok hn w
  clear hn ok
  obtain ⟨W, hW⟩ : ∃ W, W = ((w.alloc (.cells #[.int .i64 c, .int .i64 h, .int .i64 x] 23)).alloc (.cells #[.int .i64 a, .int .i64 b, .int .i64 d] 23)).alloc (.cells #[.int .i64 1, .int .i64 o, .int .i64 s, .int .i64 t] 39) := ⟨_, rfl⟩
  have HBW : Hid (Below w.heap.size w W) := by rw [hW]; exact (by repeat first | exact Below.refl _ _ | refine chain_alloc ?_ _)
  have a0 : W.cell? ⟨w.heap.size, 0, none⟩ = some (.int .i64 c) := by rw [hW]; go_simp
  have a1 : W.cell? ⟨w.heap.size, 1, none⟩ = some (.int .i64 h) := by rw [hW]; go_simp
  have a2 : W.cell? ⟨w.heap.size, 2, none⟩ = some (.int .i64 x) := by rw [hW]; go_simp
  have a3 : W.cell? ⟨w.heap.size + 1, 1, none⟩ = some (.int .i64 b) := by rw [hW]; go_simp
  have a4 : W.cell? ⟨w.heap.size + 1, 2, none⟩ = some (.int .i64 d) := by rw [hW]; go_simp
  have a5 : W.cell? ⟨w.heap.size + 1 + 1, 0, none⟩ = some (.int .i64 1) := by rw [hW]; go_simp
  have a6 : W.cell? ⟨w.heap.size + 1 + 1, 1, none⟩ = some (.int .i64 o) := by rw [hW]; go_simp
  have a7 : W.cell? ⟨w.heap.size + 1 + 1, 2, none⟩ = some (.int .i64 s) := by rw [hW]; go_simp
  have a8 : W.cell? ⟨w.heap.size + 1 + 1, 3, none⟩ = some (.int .i64 t) := by rw [hW]; go_simp
  have hWl : w.heap.size < W.heap.size := by rw [hW]; simp <;> omega
  have hWm : w.heap.size + 1 < W.heap.size := by rw [hW]; simp <;> omega
  have hWn : w.heap.size + 1 + 1 < W.heap.size := by rw [hW]; simp
  go_enter Try.func44, Try.ntmps44
  go_wp2_with fail
  rw [← hW]
  clear hW
  have HC0 : Hid (Below W.heap.size W W.drew) := below_drew W
  have tok1 : True := trivial
  go_region_held3 (fun w' => w'.cell? ⟨w.heap.size, 0, none⟩ = some (.int .i64 c) ∧ w'.cell? ⟨w.heap.size, 1, none⟩ = some (.int .i64 h) ∧ w'.cell? ⟨w.heap.size, 2, none⟩ = some (.int .i64 x) ∧ w'.cell? ⟨w.heap.size + 1, 1, none⟩ = some (.int .i64 b) ∧ w'.cell? ⟨w.heap.size + 1, 2, none⟩ = some (.int .i64 d) ∧ w'.cell? ⟨w.heap.size + 1 + 1, 0, none⟩ = some (.int .i64 1) ∧ w'.cell? ⟨w.heap.size + 1 + 1, 1, none⟩ = some (.int .i64 o) ∧ w'.cell? ⟨w.heap.size + 1 + 1, 2, none⟩ = some (.int .i64 s) ∧ w'.cell? ⟨w.heap.size + 1 + 1, 3, none⟩ = some (.int .i64 t))
    (first | exact ⟨q0, q1, q2, q3, q4, q5, q6, q7, q8⟩ | go_keep)
    (first
      | ((have _t := tok1; clear tok1; go_at_call 43; (with_reducible refine (HCall.out _).mono ?_); rintro e w1 ⟨rfl, hb1⟩
          have HC1 := Lib.hid (HC0.out.trans (hb1.mono HC0.out.size))
          have q0 := (HC1.out.cell (p := ⟨w.heap.size, 0, none⟩) hWl).trans a0
          have q1 := (HC1.out.cell (p := ⟨w.heap.size, 1, none⟩) hWl).trans a1
          have q2 := (HC1.out.cell (p := ⟨w.heap.size, 2, none⟩) hWl).trans a2
          have q3 := (HC1.out.cell (p := ⟨w.heap.size + 1, 1, none⟩) hWm).trans a3
          have q4 := (HC1.out.cell (p := ⟨w.heap.size + 1, 2, none⟩) hWm).trans a4
          have q5 := (HC1.out.cell (p := ⟨w.heap.size + 1 + 1, 0, none⟩) hWn).trans a5
          have q6 := (HC1.out.cell (p := ⟨w.heap.size + 1 + 1, 1, none⟩) hWn).trans a6
          have q7 := (HC1.out.cell (p := ⟨w.heap.size + 1 + 1, 2, none⟩) hWn).trans a7
          have q8 := (HC1.out.cell (p := ⟨w.heap.size + 1 + 1, 3, none⟩) hWn).trans a8
          clear hb1))
      | fail)
  go_wp2_with fail
  go_ret
  exact ⟨ret_int V.out, HBW.out.trans (HC1.out.mono HBW.out.size)⟩
set_option maxHeartbeats 1000000 in
theorem rproducts_dense (o s t c h x a b d u : Int) (n : Int) (w : World) (hn : wI ⟨c, h, x⟩ ⟨4, o, s, t⟩ = n) (ok : KnOk ⟨⟨4, o, s, t⟩, ⟨c, h, x⟩, ⟨a, b, d⟩, u⟩) :
    Calls Try.prog 44 #[.agg #[.int .i64 c, .int .i64 h, .int .i64 x], .agg #[.int .i64 a, .int .i64 b, .int .i64 d], .agg #[.int .i64 4, .int .i64 o, .int .i64 s, .int .i64 t]] w fun e w' => e = .returned (.int .i64 n) ∧ Below w.heap.size w w' := by
  have HCall : Hid (∀ w, Calls Try.prog 43 #[.agg #[.int .i64 c, .int .i64 h, .int .i64 x], .agg #[.int .i64 4, .int .i64 o, .int .i64 s, .int .i64 t]] w fun e w' => e = .returned (.int .i64 n) ∧ Below w.heap.size w w') := fun w => rweights_any ⟨c, h, x⟩ ⟨4, o, s, t⟩ _ _ n ok hn w
  clear hn ok
  go_enter Try.func44, Try.ntmps44
  go_wp2_with fail
  refine (HCall.out _).mono ?_
  rintro e w1 ⟨rfl, hb⟩
  have HB := Lib.hid (chain (below_threeB w _ _ _) hb)
  clear hb
  go_wp2_with fail
  go_ret
  exact ⟨rfl, HB.out⟩
set_option maxHeartbeats 1000000 in
theorem rproducts_square (o s t c h x a b d : Int) (w : World) :
    Calls Try.prog 44 #[.agg #[.int .i64 c, .int .i64 h, .int .i64 x], .agg #[.int .i64 a, .int .i64 b, .int .i64 d], .agg #[.int .i64 2, .int .i64 o, .int .i64 s, .int .i64 t]] w fun e w' => e = .returned (.int .i64 (sizeI c h x)) ∧ Below w.heap.size w w' := by
  go_enter Try.func44, Try.ntmps44
  go_wp2_with fail
  refine (rsize_any c h x _).mono ?_
  rintro e w1 ⟨rfl, hb⟩
  have HB := Lib.hid (chain (below_threeB w _ _ _) hb)
  clear hb
  go_wp2_with fail
  go_ret
  exact ⟨rfl, HB.out⟩
set_option maxHeartbeats 1000000 in
theorem rproducts_none (k o s t c h x a b d : Int) (w : World) (k1 : (k == 1) = false) (k2 : (k == 2) = false) (k4 : (k == 4) = false) :
    Calls Try.prog 44 #[.agg #[.int .i64 c, .int .i64 h, .int .i64 x], .agg #[.int .i64 a, .int .i64 b, .int .i64 d], .agg #[.int .i64 k, .int .i64 o, .int .i64 s, .int .i64 t]] w fun e w' => e = .returned (.int .i64 0) ∧ Below w.heap.size w w' := by
  go_enter Try.func44, Try.ntmps44
  go_wp2
  go_ret
  exact ⟨rfl, by repeat first | exact Below.refl _ _ | refine chain_alloc ?_ _⟩
/-- The document's own products. -/
theorem rproducts_any (S : Sh) (l : Ly) (T : Sh) (a : Int) (n : Int) (hk : KnOk ⟨l, S, T, a⟩) (hn : pI S T l = n) (w : World) :
    Calls Try.prog 44 #[.agg #[.int .i64 S.c, .int .i64 S.h, .int .i64 S.x], .agg #[.int .i64 T.c, .int .i64 T.h, .int .i64 T.x], .agg #[.int .i64 l.k, .int .i64 l.o, .int .i64 l.s, .int .i64 l.t]] w fun e w' => e = .returned (.int .i64 n) ∧ Below w.heap.size w w' := by
  subst hn
  obtain ⟨k, o, s, t⟩ := l
  by_cases k1 : k = 1
  · subst k1
    rw [p_conv _ _ rfl]
    exact rproducts_conv o s t S.c S.h S.x T.c T.h T.x a _ w rfl hk
  · by_cases k2 : k = 2
    · subst k2
      rw [p_square _ _ rfl]
      exact rproducts_square o s t S.c S.h S.x T.c T.h T.x w
    · by_cases k4 : k = 4
      · subst k4
        rw [p_dense _ _ rfl]
        exact rproducts_dense o s t S.c S.h S.x T.c T.h T.x a _ w rfl hk
      · rw [p_none (l := ⟨k, o, s, t⟩) _ _ k1 k2 k4]
        exact rproducts_none k o s t S.c S.h S.x T.c T.h T.x w (ne_beq k1) (ne_beq k2) (ne_beq k4)

end Go.Proofs.Ytklgjhldebdegaa

namespace Go.Proofs.Ytklgjhldebdegaa
open Go.RowKit

set_option maxHeartbeats 1000000 in
theorem rwithin_any (n : Int) (w : World) : Calls Try.prog 59 #[.int .i64 n] w fun e w' => e = .returned (.bool (winB n)) ∧ w = w' := by
  by_cases h0 : 0 ≤ n
  · have d0 : decide (0 ≤ n) = true := by simpa using h0
    by_cases h1 : n ≤ 999999
    · have d1 : decide (n ≤ 999999) = true := by simpa using h1
      have H := Lib.hid (win_mk h0 h1)
      go_enter Try.func59, Try.ntmps59
      go_wp2
      go_ret
      exact ⟨ret_bool H.out.symm, rfl⟩
    · have d1 : decide (n ≤ 999999) = false := by simpa using h1
      have H := Lib.hid (win_hi (n := n) (by omega))
      go_enter Try.func59, Try.ntmps59
      go_wp2
      go_ret
      exact ⟨ret_bool H.out.symm, rfl⟩
  · have d0 : decide (0 ≤ n) = false := by simpa using h0
    have H := Lib.hid (win_lo (n := n) (by omega))
    go_enter Try.func59, Try.ntmps59
    go_wp2
    go_ret
    exact ⟨ret_bool H.out.symm, rfl⟩
theorem conv_b (o s t : Int) : lyB ⟨1, o, s, t⟩ = (winB o && (winB s && winB t)) := by
  show (true && (winB o && (winB s && (winB t && true))) && true) = _
  simp
theorem square_b (o s t : Int) : lyB ⟨2, o, s, t⟩ = (o == 0 && (s == 0 && t == 0)) := by
  show (true && true && (o == 0 && s == 0 && t == 0)) = _
  simp [Bool.and_assoc]
theorem pool_b (o s t : Int) : lyB ⟨3, o, s, t⟩ = (o == 0 && (winB s && t == 0)) := by
  show (true && (winB s && true) && (o == 0 && t == 0)) = _
  cases winB s <;> cases h : (o == 0) <;> simp
theorem dense_b (o s t : Int) : lyB ⟨4, o, s, t⟩ = (winB o && (s == 0 && t == 0)) := by
  show (true && (winB o && true) && (s == 0 && t == 0)) = _
  simp
set_option maxHeartbeats 2000000 in
set_option maxRecDepth 100000 in
theorem rlayer_conv (o s t : Int) (w : World) : Calls Try.prog 60 #[.agg #[.int .i64 1, .int .i64 o, .int .i64 s, .int .i64 t]] w fun e w' => e = .returned (.bool (lyB ⟨1, o, s, t⟩)) ∧ Below w.heap.size w w' := by
  have H := Lib.hid (conv_b o s t)
  go_enter Try.func60, Try.ntmps60
  go_wp2_with fail
  refine (rwithin_any o _).mono ?_
  rintro e w1 ⟨rfl, rfl⟩
  cases h1 : winB o
  · rw [h1] at H
    clear h1
    go_wp2_with fail
    go_ret
    exact ⟨ret_bool H.out.symm, (Below.refl _ w).alloc (Nat.le_refl _) _⟩
  · rw [h1] at H
    clear h1
    go_wp2_with fail
    refine (rwithin_any s _).mono ?_
    rintro e w1 ⟨rfl, rfl⟩
    cases h2 : winB s
    · rw [h2] at H
      clear h2
      go_wp2_with fail
      go_ret
      exact ⟨ret_bool H.out.symm, (Below.refl _ w).alloc (Nat.le_refl _) _⟩
    · rw [h2] at H
      clear h2
      go_wp2_with fail
      refine (rwithin_any t _).mono ?_
      rintro e w1 ⟨rfl, rfl⟩
      cases h3 : winB t
      all_goals
        rw [h3] at H
        clear h3
        go_wp2_with fail
        go_ret
        exact ⟨ret_bool H.out.symm, (Below.refl _ w).alloc (Nat.le_refl _) _⟩
set_option maxHeartbeats 2000000 in
set_option maxRecDepth 100000 in
theorem rlayer_square (o s t : Int) (w : World) : Calls Try.prog 60 #[.agg #[.int .i64 2, .int .i64 o, .int .i64 s, .int .i64 t]] w fun e w' => e = .returned (.bool (lyB ⟨2, o, s, t⟩)) ∧ Below w.heap.size w w' := by
  have H := Lib.hid (square_b o s t)
  cases h1 : (o == 0) <;> cases h2 : (s == 0) <;> cases h3 : (t == 0)
  all_goals
    rw [h1, h2, h3] at H
    go_enter Try.func60, Try.ntmps60
    go_wp2_with fail
    go_ret
    exact ⟨ret_bool H.out.symm, (Below.refl _ w).alloc (Nat.le_refl _) _⟩
set_option maxHeartbeats 2000000 in
set_option maxRecDepth 100000 in
theorem rlayer_pool (o s t : Int) (w : World) : Calls Try.prog 60 #[.agg #[.int .i64 3, .int .i64 o, .int .i64 s, .int .i64 t]] w fun e w' => e = .returned (.bool (lyB ⟨3, o, s, t⟩)) ∧ Below w.heap.size w w' := by
  have H := Lib.hid (pool_b o s t)
  cases h1 : (o == 0)
  · rw [h1] at H
    go_enter Try.func60, Try.ntmps60
    go_wp2_with fail
    go_ret
    exact ⟨ret_bool H.out.symm, (Below.refl _ w).alloc (Nat.le_refl _) _⟩
  · rw [h1] at H
    cases h3 : (t == 0)
    all_goals
      rw [h3] at H
      go_enter Try.func60, Try.ntmps60
      go_wp2_with fail
      refine (rwithin_any s _).mono ?_
      rintro e w1 ⟨rfl, rfl⟩
      cases h2 : winB s
      all_goals
        rw [h2] at H
        clear h2
        go_wp2_with fail
        go_ret
        exact ⟨ret_bool H.out.symm, (Below.refl _ w).alloc (Nat.le_refl _) _⟩
set_option maxHeartbeats 2000000 in
set_option maxRecDepth 100000 in
theorem rlayer_dense (o s t : Int) (w : World) : Calls Try.prog 60 #[.agg #[.int .i64 4, .int .i64 o, .int .i64 s, .int .i64 t]] w fun e w' => e = .returned (.bool (lyB ⟨4, o, s, t⟩)) ∧ Below w.heap.size w w' := by
  have H := Lib.hid (dense_b o s t)
  cases h1 : (s == 0) <;> cases h3 : (t == 0)
  all_goals
    rw [h1, h3] at H
    go_enter Try.func60, Try.ntmps60
    go_wp2_with fail
    refine (rwithin_any o _).mono ?_
    rintro e w1 ⟨rfl, rfl⟩
    cases h2 : winB o
    all_goals
      rw [h2] at H
      clear h2
      go_wp2_with fail
      go_ret
      exact ⟨ret_bool H.out.symm, (Below.refl _ w).alloc (Nat.le_refl _) _⟩
set_option maxHeartbeats 2000000 in
set_option maxRecDepth 100000 in
theorem rlayer_none (k o s t : Int) (w : World) (h1 : (k == 1) = false) (h2 : (k == 2) = false) (h3 : (k == 3) = false) (h4 : (k == 4) = false) : Calls Try.prog 60 #[.agg #[.int .i64 k, .int .i64 o, .int .i64 s, .int .i64 t]] w fun e w' => e = .returned (.bool false) ∧ Below w.heap.size w w' := by
  go_enter Try.func60, Try.ntmps60
  go_wp2_with fail
  go_ret
  exact ⟨rfl, (Below.refl _ w).alloc (Nat.le_refl _) _⟩
theorem rlayer_any (L : Ly) (w : World) : Calls Try.prog 60 #[.agg #[.int .i64 L.k, .int .i64 L.o, .int .i64 L.s, .int .i64 L.t]] w fun e w' => e = .returned (.bool (lyB L)) ∧ Below w.heap.size w w' := by
  obtain ⟨k, o, s, t⟩ := L
  show Calls Try.prog 60 #[.agg #[.int .i64 k, .int .i64 o, .int .i64 s, .int .i64 t]] w _
  by_cases h1 : k = 1
  · subst h1; exact rlayer_conv o s t w
  by_cases h2 : k = 2
  · subst h2; exact rlayer_square o s t w
  by_cases h3 : k = 3
  · subst h3; exact rlayer_pool o s t w
  by_cases h4 : k = 4
  · subst h4; exact rlayer_dense o s t w
  have : lyB ⟨k, o, s, t⟩ = false := by
    unfold lyB kindB
    by_cases h : 1 ≤ k
    · have : decide (k ≤ 4) = false := by simp; omega
      simp [this]
    · simp [h]
  rw [this]; exact rlayer_none k o s t w (ne_beq h1) (ne_beq h2) (ne_beq h3) (ne_beq h4)

end Go.Proofs.Ytklgjhldebdegaa

namespace Go.Proofs.Ytklgjhldebdegaa
open Go.RowKit

theorem win3 (c h x : Int) : [c, h, x].all winB = (winB c && (winB h && winB x)) := by simp
set_option maxHeartbeats 4000000 in
set_option maxRecDepth 100000 in
theorem rform_any (c h x : Int) (A : Option Addr) (cA n : Nat) (ls : List Ly) (w : World) (hx : Rl w A ls) (ln : n = ls.length) (hn : n ≤ 1000) :
    Calls Try.prog 40 #[.agg #[.int .i64 c, .int .i64 h, .int .i64 x, .slice A n cA]] w fun e w' => e = .returned (.bool (formB ⟨c, h, x, ls⟩)) ∧ Below w.heap.size w w' := by
  have HX := Lib.hid hx; have LX := Lib.hid ln; clear hx ln
  have HN := Lib.hid (NB.new w c h x (.slice A n cA))
  have HB := Lib.hid ((Below.refl w.heap.size w).alloc (Nat.le_refl _) (.cells #[.int .i64 c, .int .i64 h, .int .i64 x, .slice A n cA] 26))
  have H3 := Lib.hid (win3 c h x)
  go_enter Try.func40, Try.ntmps40
  go_wp2_with fail
  refine (rwithin_any c _).mono ?_
  rintro e w1 ⟨rfl, rfl⟩
  cases h1 : winB c
  · have HW := Lib.hid (form_no1 (c := c) (h := h) (x := x) (ls := ls) (by rw [H3.out, h1]; rfl))
    clear h1
    go_wp2_with fail
    go_ret
    exact ⟨ret_bool HW.out.symm, HB.out⟩
  rw [h1] at H3
  clear h1
  go_wp2_with fail
  refine (rwithin_any h _).mono ?_
  rintro e w1 ⟨rfl, rfl⟩
  cases h1 : winB h
  · have HW := Lib.hid (form_no1 (c := c) (h := h) (x := x) (ls := ls) (by rw [H3.out, h1]; rfl))
    clear h1
    go_wp2_with fail
    go_ret
    exact ⟨ret_bool HW.out.symm, HB.out⟩
  rw [h1] at H3
  clear h1
  go_wp2_with fail
  refine (rwithin_any x _).mono ?_
  rintro e w1 ⟨rfl, rfl⟩
  cases h1 : winB x
  · have HW := Lib.hid (form_no1 (c := c) (h := h) (x := x) (ls := ls) (by rw [H3.out, h1]; rfl))
    clear h1
    go_wp2_with fail
    go_ret
    exact ⟨ret_bool HW.out.symm, HB.out⟩
  rw [h1] at H3
  have HV : Hid ([c, h, x].all winB = true) := by show _ = _; rw [H3.out]; rfl
  clear h1
  by_cases h8 : 8 < n
  · have HW := Lib.hid (form_no2 (c := c) (h := h) (x := x) (ls := ls) (by rw [← LX.out]; exact h8))
    have d8 : decide (8 < n) = true := by simpa using h8
    have e8 : decide ((8 : Int) < (n : Int)) = true := by simp; omega
    go_wp2_with fail
    go_ret
    exact ⟨ret_bool HW.out.symm, HB.out⟩
  · have d8 : decide (8 < n) = false := by simpa using h8
    have e8 : decide ((8 : Int) < (n : Int)) = false := by simp; omega
    obtain ⟨W, hW⟩ : ∃ W : World, W = w.alloc (.cells #[.int .i64 c, .int .i64 h, .int .i64 x, .slice A n cA] 26) := ⟨_, rfl⟩
    go_wp2_with fail
    rw [← hW]
    rw [← hW] at HB HN
    clear hW
    go_loopw [3] (fun i wr => ∃ k : Nat, k ≤ n ∧ i = .int .i64 k ∧ Hid ((ls.take k).all lyB = true) ∧ Hid (Below W.heap.size W wr)) (fun i _ => n - (intOf i).toNat)
    case atStart => exact ⟨0, Nat.zero_le _, rfl, rfl, Below.refl _ _⟩
    case round =>
      obtain ⟨k, hk, rfl, HA, HC⟩ := hrel
      obtain ⟨_, _, _, m3⟩ := (HN.out.below HC.out).cells
      have HD := Lib.hid (HB.out.trans (HC.out.mono HB.out.size))
      by_cases hlt : k < n
      · have hkl : k < ls.length := by rw [← LX.out]; exact hlt
        obtain ⟨b1, o1, rfl, l1, q⟩ := HX.out (by omega)
        obtain ⟨l, hle⟩ : ∃ l, l = ls.getD k Ly.z := ⟨_, rfl⟩
        have hq := (q k hkl).below HD.out l1
        rw [← hle] at hq
        have HL : Hid (ls[k]? = some l) := by show _ = _; rw [hle]; exact get_ly hkl
        obtain ⟨p0, p1, p2, p3⟩ := hq
        clear q hle
        go_wp2_with fail
        refine (rlayer_any l _).mono ?_
        rintro e w2 ⟨rfl, hb2⟩
        have HB2 := Lib.hid (HC.out.trans (hb2.mono HC.out.size))
        clear hb2 p0 p1 p2 p3 m3
        cases hl : lyB l
        · have HW := Lib.hid (form_no3 (c := c) (h := h) (x := x) (all_no HL.out hl))
          clear hl
          go_wp2_with fail
          go_ret
          exact ⟨ret_bool HW.out.symm, HB.out.trans (HB2.out.mono HB.out.size)⟩
        · have HT : Hid ((ls.take (k + 1)).all lyB = true) := by
            show _ = true
            rw [take_get HL.out, List.all_append, HA.out]; simp [hl]
          clear hl
          go_wp2_with fail
          go_roundw
          case rel => exact ⟨k + 1, by omega, by go_num, HT, HB2⟩
          case measure => simp [intOf]; omega
      · obtain rfl : k = n := by omega
        have hall := HA.out
        rw [LX.out, List.take_length] at hall
        have HW := Lib.hid (form_mk (n := ⟨c, h, x, ls⟩) HV.out (by show ls.length ≤ 8; rw [← LX.out]; omega) hall)
        clear hall
        go_wp2_with fail
        go_ret
        exact ⟨ret_bool HW.out.symm, HD.out⟩

end Go.Proofs.Ytklgjhldebdegaa

namespace Go.Proofs.Ytklgjhldebdegaa
open Go.RowKit

theorem sh_at {w : World} {b off : Nat} {ss : List Sh} (h : ∀ j u, (ss.flatMap scells)[j]? = some u → w.cell? ⟨b, off + j, none⟩ = some u) {k : Nat} {S : Sh} (hS : ss[k]? = some S) :
    w.cell? ⟨b, off + k * 3, none⟩ = some (.int .i64 S.c) ∧ w.cell? ⟨b, off + k * 3 + 1, none⟩ = some (.int .i64 S.h) ∧ w.cell? ⟨b, off + k * 3 + 2, none⟩ = some (.int .i64 S.x) := by
  have q := Rg.at scells_len h hS
  exact ⟨q 0 _ rfl, q 1 _ rfl, q 2 _ rfl⟩
/-- A layer in a variable. -/
def LB (w : World) (b : Nat) (l : Ly) : Prop := w.heap[b]? = some (.cells #[.int .i64 l.k, .int .i64 l.o, .int .i64 l.s, .int .i64 l.t] 39 (0, 0))
theorem LB.lt {w : World} {b : Nat} {l : Ly} (H : LB w b l) : b < w.heap.size := (Array.getElem?_eq_some_iff.1 H).1
theorem LB.below {w w' : World} {b : Nat} {l : Ly} (H : LB w b l) (hb : Below w.heap.size w w') : LB w' b l := (hb.block b H.lt).trans H
theorem LB.cells {w : World} {b : Nat} {l : Ly} (H : LB w b l) : w.cell? ⟨b, 0, none⟩ = some (.int .i64 l.k) ∧ w.cell? ⟨b, 1, none⟩ = some (.int .i64 l.o) ∧ w.cell? ⟨b, 2, none⟩ = some (.int .i64 l.s) ∧ w.cell? ⟨b, 3, none⟩ = some (.int .i64 l.t) := by
  refine ⟨?_, ?_, ?_, ?_⟩ <;> (rw [Lib.cell_of_heap H]; rfl)
end Go.Proofs.Ytklgjhldebdegaa
