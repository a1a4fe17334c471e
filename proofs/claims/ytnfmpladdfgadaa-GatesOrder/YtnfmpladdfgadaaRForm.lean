/-
  What the document's own within and layer answer.
-/
import Derived.Test.YtnfmpladdfgadaaForm
namespace Go.Proofs.Ytnfmpladdfgadaa
open Go.RowKit

set_option maxHeartbeats 1000000 in
theorem rwithin_any (n : Int) (w : World) : Calls Try.prog 86 #[.int .i64 n] w fun e w' => e = .returned (.bool (winB n)) ∧ w = w' := by
  by_cases h0 : 0 ≤ n
  · have d0 : decide (0 ≤ n) = true := by simpa using h0
    by_cases h1 : n ≤ 999999
    · have d1 : decide (n ≤ 999999) = true := by simpa using h1
      have H := Lib.hid (win_mk h0 h1)
      go_enter Try.func86, Try.ntmps86
      go_wp2
      go_ret
      exact ⟨ret_bool H.out.symm, rfl⟩
    · have d1 : decide (n ≤ 999999) = false := by simpa using h1
      have H := Lib.hid (win_hi (n := n) (by omega))
      go_enter Try.func86, Try.ntmps86
      go_wp2
      go_ret
      exact ⟨ret_bool H.out.symm, rfl⟩
  · have d0 : decide (0 ≤ n) = false := by simpa using h0
    have H := Lib.hid (win_lo (n := n) (by omega))
    go_enter Try.func86, Try.ntmps86
    go_wp2
    go_ret
    exact ⟨ret_bool H.out.symm, rfl⟩
theorem conv_b (o s t : Int) : lyB ⟨1, o, s, t⟩ = (winB o && (winB s && winB t)) := by
  show (true && (winB o && (winB s && (winB t && true))) && true) = _
  simp
theorem square_b (o s t : Int) : lyB ⟨2, o, s, t⟩ = (o == 0 && (s == 0 && t == 0)) := by
  show (true && true && (o == 0 && s == 0 && t == 0)) = _
  simp [Bool.and_assoc]
theorem pool_b (o s t : Int) : lyB ⟨3, o, s, t⟩ = (o == 0 && (winB s && t == 0)) := by
  show (true && (winB s && true) && (o == 0 && t == 0)) = _
  cases winB s <;> cases h : (o == 0) <;> simp
theorem dense_b (o s t : Int) : lyB ⟨4, o, s, t⟩ = (winB o && (s == 0 && t == 0)) := by
  show (true && (winB o && true) && (s == 0 && t == 0)) = _
  simp
set_option maxHeartbeats 2000000 in
set_option maxRecDepth 100000 in
theorem rlayer_conv (o s t : Int) (w : World) : Calls Try.prog 87 #[.agg #[.int .i64 1, .int .i64 o, .int .i64 s, .int .i64 t]] w fun e w' => e = .returned (.bool (lyB ⟨1, o, s, t⟩)) ∧ Below w.heap.size w w' := by
  have H := Lib.hid (conv_b o s t)
  go_enter Try.func87, Try.ntmps87
  go_wp2_with fail
  refine (rwithin_any o _).mono ?_
  rintro e w1 ⟨rfl, rfl⟩
  cases h1 : winB o
  · rw [h1] at H
    clear h1
    go_wp2_with fail
    go_ret
    exact ⟨ret_bool H.out.symm, (Below.refl _ w).alloc (Nat.le_refl _) _⟩
  · rw [h1] at H
    clear h1
    go_wp2_with fail
    refine (rwithin_any s _).mono ?_
    rintro e w1 ⟨rfl, rfl⟩
    cases h2 : winB s
    · rw [h2] at H
      clear h2
      go_wp2_with fail
      go_ret
      exact ⟨ret_bool H.out.symm, (Below.refl _ w).alloc (Nat.le_refl _) _⟩
    · rw [h2] at H
      clear h2
      go_wp2_with fail
      refine (rwithin_any t _).mono ?_
      rintro e w1 ⟨rfl, rfl⟩
      cases h3 : winB t
      all_goals
        rw [h3] at H
        clear h3
        go_wp2_with fail
        go_ret
        exact ⟨ret_bool H.out.symm, (Below.refl _ w).alloc (Nat.le_refl _) _⟩
set_option maxHeartbeats 2000000 in
set_option maxRecDepth 100000 in
theorem rlayer_square (o s t : Int) (w : World) : Calls Try.prog 87 #[.agg #[.int .i64 2, .int .i64 o, .int .i64 s, .int .i64 t]] w fun e w' => e = .returned (.bool (lyB ⟨2, o, s, t⟩)) ∧ Below w.heap.size w w' := by
  have H := Lib.hid (square_b o s t)
  cases h1 : (o == 0) <;> cases h2 : (s == 0) <;> cases h3 : (t == 0)
  all_goals
    rw [h1, h2, h3] at H
    go_enter Try.func87, Try.ntmps87
    go_wp2_with fail
    go_ret
    exact ⟨ret_bool H.out.symm, (Below.refl _ w).alloc (Nat.le_refl _) _⟩
set_option maxHeartbeats 2000000 in
set_option maxRecDepth 100000 in
theorem rlayer_pool (o s t : Int) (w : World) : Calls Try.prog 87 #[.agg #[.int .i64 3, .int .i64 o, .int .i64 s, .int .i64 t]] w fun e w' => e = .returned (.bool (lyB ⟨3, o, s, t⟩)) ∧ Below w.heap.size w w' := by
  have H := Lib.hid (pool_b o s t)
  cases h1 : (o == 0)
  · rw [h1] at H
    go_enter Try.func87, Try.ntmps87
    go_wp2_with fail
    go_ret
    exact ⟨ret_bool H.out.symm, (Below.refl _ w).alloc (Nat.le_refl _) _⟩
  · rw [h1] at H
    cases h3 : (t == 0)
    all_goals
      rw [h3] at H
      go_enter Try.func87, Try.ntmps87
      go_wp2_with fail
      refine (rwithin_any s _).mono ?_
      rintro e w1 ⟨rfl, rfl⟩
      cases h2 : winB s
      all_goals
        rw [h2] at H
        clear h2
        go_wp2_with fail
        go_ret
        exact ⟨ret_bool H.out.symm, (Below.refl _ w).alloc (Nat.le_refl _) _⟩
set_option maxHeartbeats 2000000 in
set_option maxRecDepth 100000 in
theorem rlayer_dense (o s t : Int) (w : World) : Calls Try.prog 87 #[.agg #[.int .i64 4, .int .i64 o, .int .i64 s, .int .i64 t]] w fun e w' => e = .returned (.bool (lyB ⟨4, o, s, t⟩)) ∧ Below w.heap.size w w' := by
  have H := Lib.hid (dense_b o s t)
  cases h1 : (s == 0) <;> cases h3 : (t == 0)
  all_goals
    rw [h1, h3] at H
    go_enter Try.func87, Try.ntmps87
    go_wp2_with fail
    refine (rwithin_any o _).mono ?_
    rintro e w1 ⟨rfl, rfl⟩
    cases h2 : winB o
    all_goals
      rw [h2] at H
      clear h2
      go_wp2_with fail
      go_ret
      exact ⟨ret_bool H.out.symm, (Below.refl _ w).alloc (Nat.le_refl _) _⟩
set_option maxHeartbeats 2000000 in
set_option maxRecDepth 100000 in
theorem rlayer_none (k o s t : Int) (w : World) (h1 : (k == 1) = false) (h2 : (k == 2) = false) (h3 : (k == 3) = false) (h4 : (k == 4) = false) : Calls Try.prog 87 #[.agg #[.int .i64 k, .int .i64 o, .int .i64 s, .int .i64 t]] w fun e w' => e = .returned (.bool false) ∧ Below w.heap.size w w' := by
  go_enter Try.func87, Try.ntmps87
  go_wp2_with fail
  go_ret
  exact ⟨rfl, (Below.refl _ w).alloc (Nat.le_refl _) _⟩
theorem rlayer_any (L : Ly) (w : World) : Calls Try.prog 87 #[.agg #[.int .i64 L.k, .int .i64 L.o, .int .i64 L.s, .int .i64 L.t]] w fun e w' => e = .returned (.bool (lyB L)) ∧ Below w.heap.size w w' := by
  obtain ⟨k, o, s, t⟩ := L
  show Calls Try.prog 87 #[.agg #[.int .i64 k, .int .i64 o, .int .i64 s, .int .i64 t]] w _
  by_cases h1 : k = 1
  · subst h1; exact rlayer_conv o s t w
  by_cases h2 : k = 2
  · subst h2; exact rlayer_square o s t w
  by_cases h3 : k = 3
  · subst h3; exact rlayer_pool o s t w
  by_cases h4 : k = 4
  · subst h4; exact rlayer_dense o s t w
  have : lyB ⟨k, o, s, t⟩ = false := by
    unfold lyB kindB
    by_cases h : 1 ≤ k
    · have : decide (k ≤ 4) = false := by simp; omega
      simp [this]
    · simp [h]
  rw [this]; exact rlayer_none k o s t w (ne_beq h1) (ne_beq h2) (ne_beq h3) (ne_beq h4)

end Go.Proofs.Ytnfmpladdfgadaa
