/-
  What the document's own Conv answers.
-/
import Derived.Test.YtnfmpladdfgadaaRefS
namespace Go.Proofs.Ytnfmpladdfgadaa
open Go.RowKit

set_option maxHeartbeats 400000 in
theorem rconv_wrong (c h x out size step : Int) (w : World) (r : rightB c h x = false) :
    Calls Try.prog 88 #[.agg #[.int .i64 c, .int .i64 h, .int .i64 x], .int .i64 out, .int .i64 size, .int .i64 step] w (Out 0 0 0 false w) := by
  have HR := Lib.hid r; clear r
  go_enter Try.func88, Try.ntmps88
  go_wp2_with fail
  refine (rright_no c h x _ HR.out).mono ?_
  rintro e w1 ⟨rfl, hb1⟩
  have HB1 : Hid (Below w.heap.size w w1) := chain (by repeat first | exact Below.refl _ _ | refine chain_alloc ?_ _) hb1
  obtain ⟨hc, hf⟩ := bcell hb1
  have hz : w.heap.size + 1 < w1.heap.size := by have := hb1.size; simp at this; omega
  have g1 : w1.cell? ⟨w.heap.size, 1, none⟩ = some (.int .i64 h) := by rw [hc _ _ (by simp <;> omega)]; go_simp
  have g2 : w1.cell? ⟨w.heap.size, 2, none⟩ = some (.int .i64 x) := by rw [hc _ _ (by simp <;> omega)]; go_simp
  have hz0 : w.heap.size < w1.heap.size := by omega
  clear hb1
  go_wp2_with fail
  exact bodyPost_ret (v := .tuple #[.agg #[.int .i64 0, .int .i64 0, .int .i64 0], .bool false]) (by simp [results, Try.results88, go_sem, hc]) rfl ⟨rfl, ((HB1.out.setCell (by simp) _).setCell (by simp) _).setCell (by simp) _⟩
set_option maxHeartbeats 800000 in
theorem rconv_bad_low (c h x out size step : Int) (w : World) (r : rightB c h x = true) (hm : h ≤ x) (f : ¬ (1 ≤ out ∧ out ≤ 8 ∧ 1 ≤ size ∧ size ≤ h ∧ 1 ≤ step ∧ step ≤ 12)) :
    Calls Try.prog 88 #[.agg #[.int .i64 c, .int .i64 h, .int .i64 x], .int .i64 out, .int .i64 size, .int .i64 step] w (Out 0 0 0 false w) := by
  have HR := Lib.hid r; clear r
  have HF := Lib.hid f; clear f
  by_cases p0 : out < 1
  · have v0 : decide (out < 1) = true := decide_eq_true p0
    clear HF
    go_enter Try.func88, Try.ntmps88
    go_wp2_with fail
    refine (rright_yes c h x _ HR.out).mono ?_
    rintro e w1 ⟨rfl, hb1⟩
    have HB1 : Hid (Below w.heap.size w w1) := chain (by repeat first | exact Below.refl _ _ | refine chain_alloc ?_ _) hb1
    obtain ⟨hc, hf⟩ := bcell hb1
    have hz : w.heap.size + 1 < w1.heap.size := by have := hb1.size; simp at this; omega
    have g1 : w1.cell? ⟨w.heap.size, 1, none⟩ = some (.int .i64 h) := by rw [hc _ _ (by simp <;> omega)]; go_simp
    have g2 : w1.cell? ⟨w.heap.size, 2, none⟩ = some (.int .i64 x) := by rw [hc _ _ (by simp <;> omega)]; go_simp
    have hz0 : w.heap.size < w1.heap.size := by omega
    clear hb1
    go_wp2_with fail
    exact bodyPost_ret (v := .tuple #[.agg #[.int .i64 0, .int .i64 0, .int .i64 0], .bool false]) (by simp [results, Try.results88, go_sem, hc]) rfl ⟨rfl, ((HB1.out.setCell (by simp) _).setCell (by simp) _).setCell (by simp) _⟩
  replace p0 : 1 ≤ out := by omega
  have v0 : decide (out < 1) = false := decide_eq_false (by omega)
  by_cases p1 : 8 < out
  · have v1 : decide (8 < out) = true := decide_eq_true p1
    clear HF
    go_enter Try.func88, Try.ntmps88
    go_wp2_with fail
    refine (rright_yes c h x _ HR.out).mono ?_
    rintro e w1 ⟨rfl, hb1⟩
    have HB1 : Hid (Below w.heap.size w w1) := chain (by repeat first | exact Below.refl _ _ | refine chain_alloc ?_ _) hb1
    obtain ⟨hc, hf⟩ := bcell hb1
    have hz : w.heap.size + 1 < w1.heap.size := by have := hb1.size; simp at this; omega
    have g1 : w1.cell? ⟨w.heap.size, 1, none⟩ = some (.int .i64 h) := by rw [hc _ _ (by simp <;> omega)]; go_simp
    have g2 : w1.cell? ⟨w.heap.size, 2, none⟩ = some (.int .i64 x) := by rw [hc _ _ (by simp <;> omega)]; go_simp
    have hz0 : w.heap.size < w1.heap.size := by omega
    clear hb1
    go_wp2_with fail
    exact bodyPost_ret (v := .tuple #[.agg #[.int .i64 0, .int .i64 0, .int .i64 0], .bool false]) (by simp [results, Try.results88, go_sem, hc]) rfl ⟨rfl, ((HB1.out.setCell (by simp) _).setCell (by simp) _).setCell (by simp) _⟩
  replace p1 : out ≤ 8 := by omega
  have v1 : decide (8 < out) = false := decide_eq_false (by omega)
  by_cases p2 : size < 1
  · have v2 : decide (size < 1) = true := decide_eq_true p2
    clear HF
    go_enter Try.func88, Try.ntmps88
    go_wp2_with fail
    refine (rright_yes c h x _ HR.out).mono ?_
    rintro e w1 ⟨rfl, hb1⟩
    have HB1 : Hid (Below w.heap.size w w1) := chain (by repeat first | exact Below.refl _ _ | refine chain_alloc ?_ _) hb1
    obtain ⟨hc, hf⟩ := bcell hb1
    have hz : w.heap.size + 1 < w1.heap.size := by have := hb1.size; simp at this; omega
    have g1 : w1.cell? ⟨w.heap.size, 1, none⟩ = some (.int .i64 h) := by rw [hc _ _ (by simp <;> omega)]; go_simp
    have g2 : w1.cell? ⟨w.heap.size, 2, none⟩ = some (.int .i64 x) := by rw [hc _ _ (by simp <;> omega)]; go_simp
    have hz0 : w.heap.size < w1.heap.size := by omega
    clear hb1
    go_wp2_with fail
    exact bodyPost_ret (v := .tuple #[.agg #[.int .i64 0, .int .i64 0, .int .i64 0], .bool false]) (by simp [results, Try.results88, go_sem, hc]) rfl ⟨rfl, ((HB1.out.setCell (by simp) _).setCell (by simp) _).setCell (by simp) _⟩
  replace p2 : 1 ≤ size := by omega
  have v2 : decide (size < 1) = false := decide_eq_false (by omega)
  by_cases p3 : h < size
  · have v3 : decide (h < size) = true := decide_eq_true p3
    clear HF
    go_enter Try.func88, Try.ntmps88
    go_wp2_with fail
    refine (rright_yes c h x _ HR.out).mono ?_
    rintro e w1 ⟨rfl, hb1⟩
    have HB1 : Hid (Below w.heap.size w w1) := chain (by repeat first | exact Below.refl _ _ | refine chain_alloc ?_ _) hb1
    obtain ⟨hc, hf⟩ := bcell hb1
    have hz : w.heap.size + 1 < w1.heap.size := by have := hb1.size; simp at this; omega
    have g1 : w1.cell? ⟨w.heap.size, 1, none⟩ = some (.int .i64 h) := by rw [hc _ _ (by simp <;> omega)]; go_simp
    have g2 : w1.cell? ⟨w.heap.size, 2, none⟩ = some (.int .i64 x) := by rw [hc _ _ (by simp <;> omega)]; go_simp
    have hz0 : w.heap.size < w1.heap.size := by omega
    clear hb1
    go_wp2_with fail
    exact bodyPost_ret (v := .tuple #[.agg #[.int .i64 0, .int .i64 0, .int .i64 0], .bool false]) (by simp [results, Try.results88, go_sem, hc]) rfl ⟨rfl, ((HB1.out.setCell (by simp) _).setCell (by simp) _).setCell (by simp) _⟩
  replace p3 : size ≤ h := by omega
  have v3 : decide (h < size) = false := decide_eq_false (by omega)
  by_cases p4 : step < 1
  · have v4 : decide (step < 1) = true := decide_eq_true p4
    clear HF
    go_enter Try.func88, Try.ntmps88
    go_wp2_with fail
    refine (rright_yes c h x _ HR.out).mono ?_
    rintro e w1 ⟨rfl, hb1⟩
    have HB1 : Hid (Below w.heap.size w w1) := chain (by repeat first | exact Below.refl _ _ | refine chain_alloc ?_ _) hb1
    obtain ⟨hc, hf⟩ := bcell hb1
    have hz : w.heap.size + 1 < w1.heap.size := by have := hb1.size; simp at this; omega
    have g1 : w1.cell? ⟨w.heap.size, 1, none⟩ = some (.int .i64 h) := by rw [hc _ _ (by simp <;> omega)]; go_simp
    have g2 : w1.cell? ⟨w.heap.size, 2, none⟩ = some (.int .i64 x) := by rw [hc _ _ (by simp <;> omega)]; go_simp
    have hz0 : w.heap.size < w1.heap.size := by omega
    clear hb1
    go_wp2_with fail
    exact bodyPost_ret (v := .tuple #[.agg #[.int .i64 0, .int .i64 0, .int .i64 0], .bool false]) (by simp [results, Try.results88, go_sem, hc]) rfl ⟨rfl, ((HB1.out.setCell (by simp) _).setCell (by simp) _).setCell (by simp) _⟩
  replace p4 : 1 ≤ step := by omega
  have v4 : decide (step < 1) = false := decide_eq_false (by omega)
  by_cases p5 : 12 < step
  · have v5 : decide (12 < step) = true := decide_eq_true p5
    clear HF
    go_enter Try.func88, Try.ntmps88
    go_wp2_with fail
    refine (rright_yes c h x _ HR.out).mono ?_
    rintro e w1 ⟨rfl, hb1⟩
    have HB1 : Hid (Below w.heap.size w w1) := chain (by repeat first | exact Below.refl _ _ | refine chain_alloc ?_ _) hb1
    obtain ⟨hc, hf⟩ := bcell hb1
    have hz : w.heap.size + 1 < w1.heap.size := by have := hb1.size; simp at this; omega
    have g1 : w1.cell? ⟨w.heap.size, 1, none⟩ = some (.int .i64 h) := by rw [hc _ _ (by simp <;> omega)]; go_simp
    have g2 : w1.cell? ⟨w.heap.size, 2, none⟩ = some (.int .i64 x) := by rw [hc _ _ (by simp <;> omega)]; go_simp
    have hz0 : w.heap.size < w1.heap.size := by omega
    clear hb1
    go_wp2_with fail
    exact bodyPost_ret (v := .tuple #[.agg #[.int .i64 0, .int .i64 0, .int .i64 0], .bool false]) (by simp [results, Try.results88, go_sem, hc]) rfl ⟨rfl, ((HB1.out.setCell (by simp) _).setCell (by simp) _).setCell (by simp) _⟩
  replace p5 : step ≤ 12 := by omega
  have v5 : decide (12 < step) = false := decide_eq_false (by omega)
  exact absurd ⟨p0, p1, p2, p3, p4, p5⟩ HF.out
set_option maxHeartbeats 800000 in
theorem rconv_bad_wide (c h x out size step : Int) (w : World) (r : rightB c h x = true) (hm : x < h) (f : ¬ (1 ≤ out ∧ out ≤ 8 ∧ 1 ≤ size ∧ size ≤ x ∧ 1 ≤ step ∧ step ≤ 12)) :
    Calls Try.prog 88 #[.agg #[.int .i64 c, .int .i64 h, .int .i64 x], .int .i64 out, .int .i64 size, .int .i64 step] w (Out 0 0 0 false w) := by
  have HR := Lib.hid r; clear r
  have HF := Lib.hid f; clear f
  by_cases p0 : out < 1
  · have v0 : decide (out < 1) = true := decide_eq_true p0
    clear HF
    go_enter Try.func88, Try.ntmps88
    go_wp2_with fail
    refine (rright_yes c h x _ HR.out).mono ?_
    rintro e w1 ⟨rfl, hb1⟩
    have HB1 : Hid (Below w.heap.size w w1) := chain (by repeat first | exact Below.refl _ _ | refine chain_alloc ?_ _) hb1
    obtain ⟨hc, hf⟩ := bcell hb1
    have hz : w.heap.size + 1 < w1.heap.size := by have := hb1.size; simp at this; omega
    have g1 : w1.cell? ⟨w.heap.size, 1, none⟩ = some (.int .i64 h) := by rw [hc _ _ (by simp <;> omega)]; go_simp
    have g2 : w1.cell? ⟨w.heap.size, 2, none⟩ = some (.int .i64 x) := by rw [hc _ _ (by simp <;> omega)]; go_simp
    have hz0 : w.heap.size < w1.heap.size := by omega
    clear hb1
    go_wp2_with fail
    exact bodyPost_ret (v := .tuple #[.agg #[.int .i64 0, .int .i64 0, .int .i64 0], .bool false]) (by simp [results, Try.results88, go_sem, hc]) rfl ⟨rfl, ((HB1.out.setCell (by simp) _).setCell (by simp) _).setCell (by simp) _⟩
  replace p0 : 1 ≤ out := by omega
  have v0 : decide (out < 1) = false := decide_eq_false (by omega)
  by_cases p1 : 8 < out
  · have v1 : decide (8 < out) = true := decide_eq_true p1
    clear HF
    go_enter Try.func88, Try.ntmps88
    go_wp2_with fail
    refine (rright_yes c h x _ HR.out).mono ?_
    rintro e w1 ⟨rfl, hb1⟩
    have HB1 : Hid (Below w.heap.size w w1) := chain (by repeat first | exact Below.refl _ _ | refine chain_alloc ?_ _) hb1
    obtain ⟨hc, hf⟩ := bcell hb1
    have hz : w.heap.size + 1 < w1.heap.size := by have := hb1.size; simp at this; omega
    have g1 : w1.cell? ⟨w.heap.size, 1, none⟩ = some (.int .i64 h) := by rw [hc _ _ (by simp <;> omega)]; go_simp
    have g2 : w1.cell? ⟨w.heap.size, 2, none⟩ = some (.int .i64 x) := by rw [hc _ _ (by simp <;> omega)]; go_simp
    have hz0 : w.heap.size < w1.heap.size := by omega
    clear hb1
    go_wp2_with fail
    exact bodyPost_ret (v := .tuple #[.agg #[.int .i64 0, .int .i64 0, .int .i64 0], .bool false]) (by simp [results, Try.results88, go_sem, hc]) rfl ⟨rfl, ((HB1.out.setCell (by simp) _).setCell (by simp) _).setCell (by simp) _⟩
  replace p1 : out ≤ 8 := by omega
  have v1 : decide (8 < out) = false := decide_eq_false (by omega)
  by_cases p2 : size < 1
  · have v2 : decide (size < 1) = true := decide_eq_true p2
    clear HF
    go_enter Try.func88, Try.ntmps88
    go_wp2_with fail
    refine (rright_yes c h x _ HR.out).mono ?_
    rintro e w1 ⟨rfl, hb1⟩
    have HB1 : Hid (Below w.heap.size w w1) := chain (by repeat first | exact Below.refl _ _ | refine chain_alloc ?_ _) hb1
    obtain ⟨hc, hf⟩ := bcell hb1
    have hz : w.heap.size + 1 < w1.heap.size := by have := hb1.size; simp at this; omega
    have g1 : w1.cell? ⟨w.heap.size, 1, none⟩ = some (.int .i64 h) := by rw [hc _ _ (by simp <;> omega)]; go_simp
    have g2 : w1.cell? ⟨w.heap.size, 2, none⟩ = some (.int .i64 x) := by rw [hc _ _ (by simp <;> omega)]; go_simp
    have hz0 : w.heap.size < w1.heap.size := by omega
    clear hb1
    go_wp2_with fail
    exact bodyPost_ret (v := .tuple #[.agg #[.int .i64 0, .int .i64 0, .int .i64 0], .bool false]) (by simp [results, Try.results88, go_sem, hc]) rfl ⟨rfl, ((HB1.out.setCell (by simp) _).setCell (by simp) _).setCell (by simp) _⟩
  replace p2 : 1 ≤ size := by omega
  have v2 : decide (size < 1) = false := decide_eq_false (by omega)
  by_cases p3 : x < size
  · have v3 : decide (x < size) = true := decide_eq_true p3
    clear HF
    go_enter Try.func88, Try.ntmps88
    go_wp2_with fail
    refine (rright_yes c h x _ HR.out).mono ?_
    rintro e w1 ⟨rfl, hb1⟩
    have HB1 : Hid (Below w.heap.size w w1) := chain (by repeat first | exact Below.refl _ _ | refine chain_alloc ?_ _) hb1
    obtain ⟨hc, hf⟩ := bcell hb1
    have hz : w.heap.size + 1 < w1.heap.size := by have := hb1.size; simp at this; omega
    have g1 : w1.cell? ⟨w.heap.size, 1, none⟩ = some (.int .i64 h) := by rw [hc _ _ (by simp <;> omega)]; go_simp
    have g2 : w1.cell? ⟨w.heap.size, 2, none⟩ = some (.int .i64 x) := by rw [hc _ _ (by simp <;> omega)]; go_simp
    have hz0 : w.heap.size < w1.heap.size := by omega
    clear hb1
    go_wp2_with fail
    exact bodyPost_ret (v := .tuple #[.agg #[.int .i64 0, .int .i64 0, .int .i64 0], .bool false]) (by simp [results, Try.results88, go_sem, hc]) rfl ⟨rfl, ((HB1.out.setCell (by simp) _).setCell (by simp) _).setCell (by simp) _⟩
  replace p3 : size ≤ x := by omega
  have v3 : decide (x < size) = false := decide_eq_false (by omega)
  by_cases p4 : step < 1
  · have v4 : decide (step < 1) = true := decide_eq_true p4
    clear HF
    go_enter Try.func88, Try.ntmps88
    go_wp2_with fail
    refine (rright_yes c h x _ HR.out).mono ?_
    rintro e w1 ⟨rfl, hb1⟩
    have HB1 : Hid (Below w.heap.size w w1) := chain (by repeat first | exact Below.refl _ _ | refine chain_alloc ?_ _) hb1
    obtain ⟨hc, hf⟩ := bcell hb1
    have hz : w.heap.size + 1 < w1.heap.size := by have := hb1.size; simp at this; omega
    have g1 : w1.cell? ⟨w.heap.size, 1, none⟩ = some (.int .i64 h) := by rw [hc _ _ (by simp <;> omega)]; go_simp
    have g2 : w1.cell? ⟨w.heap.size, 2, none⟩ = some (.int .i64 x) := by rw [hc _ _ (by simp <;> omega)]; go_simp
    have hz0 : w.heap.size < w1.heap.size := by omega
    clear hb1
    go_wp2_with fail
    exact bodyPost_ret (v := .tuple #[.agg #[.int .i64 0, .int .i64 0, .int .i64 0], .bool false]) (by simp [results, Try.results88, go_sem, hc]) rfl ⟨rfl, ((HB1.out.setCell (by simp) _).setCell (by simp) _).setCell (by simp) _⟩
  replace p4 : 1 ≤ step := by omega
  have v4 : decide (step < 1) = false := decide_eq_false (by omega)
  by_cases p5 : 12 < step
  · have v5 : decide (12 < step) = true := decide_eq_true p5
    clear HF
    go_enter Try.func88, Try.ntmps88
    go_wp2_with fail
    refine (rright_yes c h x _ HR.out).mono ?_
    rintro e w1 ⟨rfl, hb1⟩
    have HB1 : Hid (Below w.heap.size w w1) := chain (by repeat first | exact Below.refl _ _ | refine chain_alloc ?_ _) hb1
    obtain ⟨hc, hf⟩ := bcell hb1
    have hz : w.heap.size + 1 < w1.heap.size := by have := hb1.size; simp at this; omega
    have g1 : w1.cell? ⟨w.heap.size, 1, none⟩ = some (.int .i64 h) := by rw [hc _ _ (by simp <;> omega)]; go_simp
    have g2 : w1.cell? ⟨w.heap.size, 2, none⟩ = some (.int .i64 x) := by rw [hc _ _ (by simp <;> omega)]; go_simp
    have hz0 : w.heap.size < w1.heap.size := by omega
    clear hb1
    go_wp2_with fail
    exact bodyPost_ret (v := .tuple #[.agg #[.int .i64 0, .int .i64 0, .int .i64 0], .bool false]) (by simp [results, Try.results88, go_sem, hc]) rfl ⟨rfl, ((HB1.out.setCell (by simp) _).setCell (by simp) _).setCell (by simp) _⟩
  replace p5 : step ≤ 12 := by omega
  have v5 : decide (12 < step) = false := decide_eq_false (by omega)
  exact absurd ⟨p0, p1, p2, p3, p4, p5⟩ HF.out
set_option maxHeartbeats 800000 in
theorem rconv_next_low (c h x out size step : Int) (w : World) (r : rightB c h x = true) (hm : h ≤ x) (o1 : 1 ≤ out) (o2 : out ≤ 8) (s1 : 1 ≤ size) (s2 : size ≤ h) (t1 : 1 ≤ step) (t2 : step ≤ 12)
    (n : rightB out ((h - size) / step + 1) ((x - size) / step + 1) = false) :
    Calls Try.prog 88 #[.agg #[.int .i64 c, .int .i64 h, .int .i64 x], .int .i64 out, .int .i64 size, .int .i64 step] w (Out 0 0 0 false w) := by
  obtain ⟨a1, a2, a3, a4, a5, a6, a7⟩ := rightB_out r
  obtain ⟨d1, d2⟩ := wins_bd a3 a4 s1 (by omega) t1
  obtain ⟨d3, d4⟩ := wins_bd a5 a6 s1 (by omega) t1
  have e1 : 0 ≤ h - size := by omega
  have e2 : 0 ≤ x - size := by omega
  have e3 : ¬ step = 0 := by omega
  have v1 : decide (out < 1) = false := decide_eq_false (by omega)
  have v2 : decide (8 < out) = false := decide_eq_false (by omega)
  have v3 : decide (size < 1) = false := decide_eq_false (by omega)
  have v4 : decide (h < size) = false := decide_eq_false (by omega)
  have v5 : decide (step < 1) = false := decide_eq_false (by omega)
  have v6 : decide (12 < step) = false := decide_eq_false (by omega)
  have HN := Lib.hid n; clear n
  have HR := Lib.hid r; clear r
  go_enter Try.func88, Try.ntmps88
  go_wp2_with fail
  refine (rright_yes c h x _ HR.out).mono ?_
  rintro e w1 ⟨rfl, hb1⟩
  have HB1 : Hid (Below w.heap.size w w1) := chain (by repeat first | exact Below.refl _ _ | refine chain_alloc ?_ _) hb1
  obtain ⟨hc, hf⟩ := bcell hb1
  have hz : w.heap.size + 1 < w1.heap.size := by have := hb1.size; simp at this; omega
  have g1 : w1.cell? ⟨w.heap.size, 1, none⟩ = some (.int .i64 h) := by rw [hc _ _ (by simp <;> omega)]; go_simp
  have g2 : w1.cell? ⟨w.heap.size, 2, none⟩ = some (.int .i64 x) := by rw [hc _ _ (by simp <;> omega)]; go_simp
  have hz0 : w.heap.size < w1.heap.size := by omega
  clear hb1
  go_wp2_with fail
  go_region
  go_wp2_with fail
  refine (rright_no out ((h - size) / step + 1) ((x - size) / step + 1) _ HN.out).mono ?_
  rintro e w2 ⟨rfl, hb2⟩
  have HB2 : Hid (Below w.heap.size w w2) := chain ((chain_alloc HB1.out _).drew) hb2
  have q1 : w2.heap.size > w1.heap.size := by have := hb2.size; simp at this; omega
  have k0 : ∀ o, w2.cell? ⟨w.heap.size + 1, o, none⟩ = w1.cell? ⟨w.heap.size + 1, o, none⟩ := fun o => by
    rw [hb2.cell (p := ⟨w.heap.size + 1, o, none⟩) (by show w.heap.size + 1 < _; simp; omega)]; go_simp
  have k1 : ∀ o, w2.frozen? ⟨w.heap.size + 1, o, none⟩ = w1.frozen? ⟨w.heap.size + 1, o, none⟩ := fun o => by
    rw [hb2.frozen (p := ⟨w.heap.size + 1, o, none⟩) (by show w.heap.size + 1 < _; simp; omega)]; go_simp
  have k2 : w2.cell? ⟨w1.heap.size, 0, none⟩ = some (.int .i64 out) := by
    rw [hb2.cell (p := ⟨w1.heap.size, 0, none⟩) (by show w1.heap.size < _; simp)]; go_simp
  have k3 : w2.cell? ⟨w1.heap.size, 1, none⟩ = some (.int .i64 ((h - size) / step + 1)) := by
    rw [hb2.cell (p := ⟨w1.heap.size, 1, none⟩) (by show w1.heap.size < _; simp)]; go_simp
  have k4 : w2.cell? ⟨w1.heap.size, 2, none⟩ = some (.int .i64 ((x - size) / step + 1)) := by
    rw [hb2.cell (p := ⟨w1.heap.size, 2, none⟩) (by show w1.heap.size < _; simp)]; go_simp
  clear hb2
  go_wp2_with fail
  exact bodyPost_ret (v := .tuple #[.agg #[.int .i64 0, .int .i64 0, .int .i64 0], .bool false]) (by simp [results, Try.results88, go_sem, k0, hc]) rfl ⟨rfl, ((HB2.out.setCell (by simp) _).setCell (by simp) _).setCell (by simp) _⟩
set_option maxHeartbeats 800000 in
theorem rconv_next_wide (c h x out size step : Int) (w : World) (r : rightB c h x = true) (hm : x < h) (o1 : 1 ≤ out) (o2 : out ≤ 8) (s1 : 1 ≤ size) (s2 : size ≤ x) (t1 : 1 ≤ step) (t2 : step ≤ 12)
    (n : rightB out ((h - size) / step + 1) ((x - size) / step + 1) = false) :
    Calls Try.prog 88 #[.agg #[.int .i64 c, .int .i64 h, .int .i64 x], .int .i64 out, .int .i64 size, .int .i64 step] w (Out 0 0 0 false w) := by
  obtain ⟨a1, a2, a3, a4, a5, a6, a7⟩ := rightB_out r
  obtain ⟨d1, d2⟩ := wins_bd a3 a4 s1 (by omega) t1
  obtain ⟨d3, d4⟩ := wins_bd a5 a6 s1 (by omega) t1
  have e1 : 0 ≤ h - size := by omega
  have e2 : 0 ≤ x - size := by omega
  have e3 : ¬ step = 0 := by omega
  have v1 : decide (out < 1) = false := decide_eq_false (by omega)
  have v2 : decide (8 < out) = false := decide_eq_false (by omega)
  have v3 : decide (size < 1) = false := decide_eq_false (by omega)
  have v4 : decide (x < size) = false := decide_eq_false (by omega)
  have v5 : decide (step < 1) = false := decide_eq_false (by omega)
  have v6 : decide (12 < step) = false := decide_eq_false (by omega)
  have HN := Lib.hid n; clear n
  have HR := Lib.hid r; clear r
  go_enter Try.func88, Try.ntmps88
  go_wp2_with fail
  refine (rright_yes c h x _ HR.out).mono ?_
  rintro e w1 ⟨rfl, hb1⟩
  have HB1 : Hid (Below w.heap.size w w1) := chain (by repeat first | exact Below.refl _ _ | refine chain_alloc ?_ _) hb1
  obtain ⟨hc, hf⟩ := bcell hb1
  have hz : w.heap.size + 1 < w1.heap.size := by have := hb1.size; simp at this; omega
  have g1 : w1.cell? ⟨w.heap.size, 1, none⟩ = some (.int .i64 h) := by rw [hc _ _ (by simp <;> omega)]; go_simp
  have g2 : w1.cell? ⟨w.heap.size, 2, none⟩ = some (.int .i64 x) := by rw [hc _ _ (by simp <;> omega)]; go_simp
  have hz0 : w.heap.size < w1.heap.size := by omega
  clear hb1
  go_wp2_with fail
  go_region
  go_wp2_with fail
  refine (rright_no out ((h - size) / step + 1) ((x - size) / step + 1) _ HN.out).mono ?_
  rintro e w2 ⟨rfl, hb2⟩
  have HB2 : Hid (Below w.heap.size w w2) := chain ((chain_alloc HB1.out _).drew) hb2
  have q1 : w2.heap.size > w1.heap.size := by have := hb2.size; simp at this; omega
  have k0 : ∀ o, w2.cell? ⟨w.heap.size + 1, o, none⟩ = w1.cell? ⟨w.heap.size + 1, o, none⟩ := fun o => by
    rw [hb2.cell (p := ⟨w.heap.size + 1, o, none⟩) (by show w.heap.size + 1 < _; simp; omega)]; go_simp
  have k1 : ∀ o, w2.frozen? ⟨w.heap.size + 1, o, none⟩ = w1.frozen? ⟨w.heap.size + 1, o, none⟩ := fun o => by
    rw [hb2.frozen (p := ⟨w.heap.size + 1, o, none⟩) (by show w.heap.size + 1 < _; simp; omega)]; go_simp
  have k2 : w2.cell? ⟨w1.heap.size, 0, none⟩ = some (.int .i64 out) := by
    rw [hb2.cell (p := ⟨w1.heap.size, 0, none⟩) (by show w1.heap.size < _; simp)]; go_simp
  have k3 : w2.cell? ⟨w1.heap.size, 1, none⟩ = some (.int .i64 ((h - size) / step + 1)) := by
    rw [hb2.cell (p := ⟨w1.heap.size, 1, none⟩) (by show w1.heap.size < _; simp)]; go_simp
  have k4 : w2.cell? ⟨w1.heap.size, 2, none⟩ = some (.int .i64 ((x - size) / step + 1)) := by
    rw [hb2.cell (p := ⟨w1.heap.size, 2, none⟩) (by show w1.heap.size < _; simp)]; go_simp
  clear hb2
  go_wp2_with fail
  exact bodyPost_ret (v := .tuple #[.agg #[.int .i64 0, .int .i64 0, .int .i64 0], .bool false]) (by simp [results, Try.results88, go_sem, k0, hc]) rfl ⟨rfl, ((HB2.out.setCell (by simp) _).setCell (by simp) _).setCell (by simp) _⟩
set_option maxHeartbeats 800000 in
theorem rconv_good_low (c h x out size step : Int) (w : World) (r : rightB c h x = true) (hm : h ≤ x) (o1 : 1 ≤ out) (o2 : out ≤ 8) (s1 : 1 ≤ size) (s2 : size ≤ h) (t1 : 1 ≤ step) (t2 : step ≤ 12)
    (n : rightB out ((h - size) / step + 1) ((x - size) / step + 1) = true) :
    Calls Try.prog 88 #[.agg #[.int .i64 c, .int .i64 h, .int .i64 x], .int .i64 out, .int .i64 size, .int .i64 step] w (Out out ((h - size) / step + 1) ((x - size) / step + 1) true w) := by
  obtain ⟨a1, a2, a3, a4, a5, a6, a7⟩ := rightB_out r
  obtain ⟨d1, d2⟩ := wins_bd a3 a4 s1 (by omega) t1
  obtain ⟨d3, d4⟩ := wins_bd a5 a6 s1 (by omega) t1
  have e1 : 0 ≤ h - size := by omega
  have e2 : 0 ≤ x - size := by omega
  have e3 : ¬ step = 0 := by omega
  have v1 : decide (out < 1) = false := decide_eq_false (by omega)
  have v2 : decide (8 < out) = false := decide_eq_false (by omega)
  have v3 : decide (size < 1) = false := decide_eq_false (by omega)
  have v4 : decide (h < size) = false := decide_eq_false (by omega)
  have v5 : decide (step < 1) = false := decide_eq_false (by omega)
  have v6 : decide (12 < step) = false := decide_eq_false (by omega)
  have HN := Lib.hid n; clear n
  have HR := Lib.hid r; clear r
  go_enter Try.func88, Try.ntmps88
  go_wp2_with fail
  refine (rright_yes c h x _ HR.out).mono ?_
  rintro e w1 ⟨rfl, hb1⟩
  have HB1 : Hid (Below w.heap.size w w1) := chain (by repeat first | exact Below.refl _ _ | refine chain_alloc ?_ _) hb1
  obtain ⟨hc, hf⟩ := bcell hb1
  have hz : w.heap.size + 1 < w1.heap.size := by have := hb1.size; simp at this; omega
  have g1 : w1.cell? ⟨w.heap.size, 1, none⟩ = some (.int .i64 h) := by rw [hc _ _ (by simp <;> omega)]; go_simp
  have g2 : w1.cell? ⟨w.heap.size, 2, none⟩ = some (.int .i64 x) := by rw [hc _ _ (by simp <;> omega)]; go_simp
  have hz0 : w.heap.size < w1.heap.size := by omega
  clear hb1
  go_wp2_with fail
  go_region
  go_wp2_with fail
  refine (rright_yes out ((h - size) / step + 1) ((x - size) / step + 1) _ HN.out).mono ?_
  rintro e w2 ⟨rfl, hb2⟩
  have HB2 : Hid (Below w.heap.size w w2) := chain ((chain_alloc HB1.out _).drew) hb2
  have q1 : w2.heap.size > w1.heap.size := by have := hb2.size; simp at this; omega
  have k0 : ∀ o, w2.cell? ⟨w.heap.size + 1, o, none⟩ = w1.cell? ⟨w.heap.size + 1, o, none⟩ := fun o => by
    rw [hb2.cell (p := ⟨w.heap.size + 1, o, none⟩) (by show w.heap.size + 1 < _; simp; omega)]; go_simp
  have k1 : ∀ o, w2.frozen? ⟨w.heap.size + 1, o, none⟩ = w1.frozen? ⟨w.heap.size + 1, o, none⟩ := fun o => by
    rw [hb2.frozen (p := ⟨w.heap.size + 1, o, none⟩) (by show w.heap.size + 1 < _; simp; omega)]; go_simp
  have k2 : w2.cell? ⟨w1.heap.size, 0, none⟩ = some (.int .i64 out) := by
    rw [hb2.cell (p := ⟨w1.heap.size, 0, none⟩) (by show w1.heap.size < _; simp)]; go_simp
  have k3 : w2.cell? ⟨w1.heap.size, 1, none⟩ = some (.int .i64 ((h - size) / step + 1)) := by
    rw [hb2.cell (p := ⟨w1.heap.size, 1, none⟩) (by show w1.heap.size < _; simp)]; go_simp
  have k4 : w2.cell? ⟨w1.heap.size, 2, none⟩ = some (.int .i64 ((x - size) / step + 1)) := by
    rw [hb2.cell (p := ⟨w1.heap.size, 2, none⟩) (by show w1.heap.size < _; simp)]; go_simp
  clear hb2
  go_wp2_with fail
  exact bodyPost_ret (v := .tuple #[.agg #[.int .i64 out, .int .i64 ((h - size) / step + 1), .int .i64 ((x - size) / step + 1)], .bool true]) (by simp [results, Try.results88, go_sem, k0, hc]) rfl ⟨rfl, ((HB2.out.setCell (by simp) _).setCell (by simp) _).setCell (by simp) _⟩
set_option maxHeartbeats 800000 in
theorem rconv_good_wide (c h x out size step : Int) (w : World) (r : rightB c h x = true) (hm : x < h) (o1 : 1 ≤ out) (o2 : out ≤ 8) (s1 : 1 ≤ size) (s2 : size ≤ x) (t1 : 1 ≤ step) (t2 : step ≤ 12)
    (n : rightB out ((h - size) / step + 1) ((x - size) / step + 1) = true) :
    Calls Try.prog 88 #[.agg #[.int .i64 c, .int .i64 h, .int .i64 x], .int .i64 out, .int .i64 size, .int .i64 step] w (Out out ((h - size) / step + 1) ((x - size) / step + 1) true w) := by
  obtain ⟨a1, a2, a3, a4, a5, a6, a7⟩ := rightB_out r
  obtain ⟨d1, d2⟩ := wins_bd a3 a4 s1 (by omega) t1
  obtain ⟨d3, d4⟩ := wins_bd a5 a6 s1 (by omega) t1
  have e1 : 0 ≤ h - size := by omega
  have e2 : 0 ≤ x - size := by omega
  have e3 : ¬ step = 0 := by omega
  have v1 : decide (out < 1) = false := decide_eq_false (by omega)
  have v2 : decide (8 < out) = false := decide_eq_false (by omega)
  have v3 : decide (size < 1) = false := decide_eq_false (by omega)
  have v4 : decide (x < size) = false := decide_eq_false (by omega)
  have v5 : decide (step < 1) = false := decide_eq_false (by omega)
  have v6 : decide (12 < step) = false := decide_eq_false (by omega)
  have HN := Lib.hid n; clear n
  have HR := Lib.hid r; clear r
  go_enter Try.func88, Try.ntmps88
  go_wp2_with fail
  refine (rright_yes c h x _ HR.out).mono ?_
  rintro e w1 ⟨rfl, hb1⟩
  have HB1 : Hid (Below w.heap.size w w1) := chain (by repeat first | exact Below.refl _ _ | refine chain_alloc ?_ _) hb1
  obtain ⟨hc, hf⟩ := bcell hb1
  have hz : w.heap.size + 1 < w1.heap.size := by have := hb1.size; simp at this; omega
  have g1 : w1.cell? ⟨w.heap.size, 1, none⟩ = some (.int .i64 h) := by rw [hc _ _ (by simp <;> omega)]; go_simp
  have g2 : w1.cell? ⟨w.heap.size, 2, none⟩ = some (.int .i64 x) := by rw [hc _ _ (by simp <;> omega)]; go_simp
  have hz0 : w.heap.size < w1.heap.size := by omega
  clear hb1
  go_wp2_with fail
  go_region
  go_wp2_with fail
  refine (rright_yes out ((h - size) / step + 1) ((x - size) / step + 1) _ HN.out).mono ?_
  rintro e w2 ⟨rfl, hb2⟩
  have HB2 : Hid (Below w.heap.size w w2) := chain ((chain_alloc HB1.out _).drew) hb2
  have q1 : w2.heap.size > w1.heap.size := by have := hb2.size; simp at this; omega
  have k0 : ∀ o, w2.cell? ⟨w.heap.size + 1, o, none⟩ = w1.cell? ⟨w.heap.size + 1, o, none⟩ := fun o => by
    rw [hb2.cell (p := ⟨w.heap.size + 1, o, none⟩) (by show w.heap.size + 1 < _; simp; omega)]; go_simp
  have k1 : ∀ o, w2.frozen? ⟨w.heap.size + 1, o, none⟩ = w1.frozen? ⟨w.heap.size + 1, o, none⟩ := fun o => by
    rw [hb2.frozen (p := ⟨w.heap.size + 1, o, none⟩) (by show w.heap.size + 1 < _; simp; omega)]; go_simp
  have k2 : w2.cell? ⟨w1.heap.size, 0, none⟩ = some (.int .i64 out) := by
    rw [hb2.cell (p := ⟨w1.heap.size, 0, none⟩) (by show w1.heap.size < _; simp)]; go_simp
  have k3 : w2.cell? ⟨w1.heap.size, 1, none⟩ = some (.int .i64 ((h - size) / step + 1)) := by
    rw [hb2.cell (p := ⟨w1.heap.size, 1, none⟩) (by show w1.heap.size < _; simp)]; go_simp
  have k4 : w2.cell? ⟨w1.heap.size, 2, none⟩ = some (.int .i64 ((x - size) / step + 1)) := by
    rw [hb2.cell (p := ⟨w1.heap.size, 2, none⟩) (by show w1.heap.size < _; simp)]; go_simp
  clear hb2
  go_wp2_with fail
  exact bodyPost_ret (v := .tuple #[.agg #[.int .i64 out, .int .i64 ((h - size) / step + 1), .int .i64 ((x - size) / step + 1)], .bool true]) (by simp [results, Try.results88, go_sem, k0, hc]) rfl ⟨rfl, ((HB2.out.setCell (by simp) _).setCell (by simp) _).setCell (by simp) _⟩
theorem rconv_any (c h x out size step : Int) (w : World) :
    Calls Try.prog 88 #[.agg #[.int .i64 c, .int .i64 h, .int .i64 x], .int .i64 out, .int .i64 size, .int .i64 step] w (Out (convC c h x out size step) (convH c h x out size step) (convW c h x out size step) (convB c h x out size step) w) := by
  cases f : convB c h x out size step
  · have n := conv_none f
    rw [n.1, n.2.1, n.2.2]
    cases r : rightB c h x
    · exact rconv_wrong c h x out size step w r
    by_cases g : 1 ≤ out ∧ out ≤ 8 ∧ 1 ≤ size ∧ size ≤ min h x ∧ 1 ≤ step ∧ step ≤ 12
    · obtain ⟨o1, o2, s1, s2, t1, t2⟩ := g
      cases n : rightB out ((h - size) / step + 1) ((x - size) / step + 1)
      · by_cases hm : h ≤ x
        · exact rconv_next_low c h x out size step w r hm o1 o2 s1 (by omega) t1 t2 n
        · exact rconv_next_wide c h x out size step w r (by omega) o1 o2 s1 (by omega) t1 t2 n
      · rw [convB_yes ⟨r, o1, o2, s1, s2, t1, t2, n⟩] at f
        cases f
    · by_cases hm : h ≤ x
      · exact rconv_bad_low c h x out size step w r hm (by omega)
      · exact rconv_bad_wide c h x out size step w r (by omega) (by omega)
  · obtain ⟨r, o1, o2, s1, s2, t1, t2, n⟩ := convB_out f
    have k := conv_is f
    rw [k.1, k.2.1, k.2.2]
    by_cases hm : h ≤ x
    · exact rconv_good_low c h x out size step w r hm o1 o2 s1 (by omega) t1 t2 n
    · exact rconv_good_wide c h x out size step w r (by omega) o1 o2 s1 (by omega) t1 t2 n

end Go.Proofs.Ytnfmpladdfgadaa
