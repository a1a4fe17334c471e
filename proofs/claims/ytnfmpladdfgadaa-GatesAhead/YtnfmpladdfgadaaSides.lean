/-
  What within, sides and the closure of package shape answer.
-/
import Derived.Test.YtnfmpladdfgadaaRows
import Derived.WalkKit
import Derived.WalkSpells
import Derived.WalkLawsBesides
import Derived.Deep.QuietTactic
import Derived.BigQuiet
import Derived.BigCall
import Derived.BigGuard
import Derived.Lib.Hide
namespace Go.Proofs.Ytnfmpladdfgadaa
open Go.RowKit

/-- Is a number from a least one to a greatest one? -/
def withinB (n l m : Int) : Bool := decide (l ≤ n ∧ n ≤ m)
theorem ret_bool {a b : Bool} (h : a = b) : Ending.returned (.bool a) = .returned (.bool b) := by rw [h]
theorem ret_int {k : IntKind} {a b : Int} (h : a = b) : Ending.returned (.int k a) = .returned (.int k b) := by rw [h]
theorem withinB_yes {n l m : Int} (h1 : l ≤ n) (h2 : n ≤ m) : withinB n l m = true := by simp [withinB, h1, h2]
theorem withinB_out {n l m : Int} (h : withinB n l m = true) : l ≤ n ∧ n ≤ m := by simpa [withinB] using h
theorem withinB_no {n l m : Int} (h : ¬ (l ≤ n ∧ n ≤ m)) : withinB n l m = false := by simpa [withinB] using h
theorem withinB_not {n l m : Int} (h : withinB n l m = false) : ¬ (l ≤ n ∧ n ≤ m) := by simpa [withinB] using h
set_option maxHeartbeats 400000 in
theorem within_any (n l m : Int) (w : World) :
    Calls Try.prog 104 #[.int .i64 n, .int .i64 l, .int .i64 m] w fun e w' => e = .returned (.bool (withinB n l m)) ∧ w = w' := by
  have H1 := Lib.hid (@withinB_yes n l m)
  have H2 := Lib.hid (@withinB_no n l m)
  by_cases h1 : l ≤ n
  · by_cases h2 : n ≤ m
    · go_enter Try.func104, Try.ntmps104
      go_wp2
      go_ret
      exact ⟨ret_bool (H1.out h1 h2).symm, rfl⟩
    · have h2' : m < n := by omega
      go_enter Try.func104, Try.ntmps104
      go_wp2
      go_ret
      exact ⟨ret_bool (H2.out (by omega)).symm, rfl⟩
  · have h1' : n < l := by omega
    go_enter Try.func104, Try.ntmps104
    go_wp2
    go_ret
    exact ⟨ret_bool (H2.out (by omega)).symm, rfl⟩
/-- The greatest number that a side may be. -/
def mostOf (i : Int) : Int := if i = 0 then 8 else 12
set_option maxHeartbeats 400000 in
theorem right1_any (i side : Int) (b : Nat) (w : World) (h0 : 0 ≤ i) (h1 : i < 3)
    (c0 : w.cell? ⟨b, 0, none⟩ = some (.int .i64 8)) (c1 : w.cell? ⟨b, 1, none⟩ = some (.int .i64 12)) (c2 : w.cell? ⟨b, 2, none⟩ = some (.int .i64 12)) :
    Calls Try.prog 103 #[.int .i64 i, .int .i64 side, .pointer (some ⟨b, 0, none⟩)] w fun e w' => e = .returned (.bool (withinB side 1 (mostOf i))) ∧ w = w' := by
  have H : Hid (mostOf 0 = 8 ∧ mostOf 1 = 12 ∧ mostOf 2 = 12) := ⟨rfl, rfl, rfl⟩
  rcases (by omega : i = 0 ∨ i = 1 ∨ i = 2) with h | h | h
  all_goals
    subst h
    clear h0 h1
    go_enter Try.func103, Try.ntmps103
    go_wp2_with fail
    refine (within_any _ _ _ _).mono ?_
    rintro e w' ⟨rfl, rfl⟩
    go_wp2_with fail
    go_ret
    first | exact ⟨ret_bool (by rw [H.out.1]), rfl⟩ | exact ⟨ret_bool (by rw [H.out.2.1]), rfl⟩ | exact ⟨ret_bool (by rw [H.out.2.2]), rfl⟩
set_option maxHeartbeats 1000000 in
theorem sides_core (F : Nat) (caps : Array Value) (q0 q1 q2 : Bool) (c h x : Int) (w : World)
    (hE : ∀ args w, Sem.run Try.prog (callFunc F args) w = .ok (.enter F args) w)
    (h0 : ∀ w1 : World, Below w.heap.size w w1 → Calls Try.prog F (#[.int .i64 0, .int .i64 c] ++ caps) w1 fun e w' => e = .returned (.bool q0) ∧ w1 = w')
    (h1 : q0 = true → ∀ w1 : World, Below w.heap.size w w1 → Calls Try.prog F (#[.int .i64 1, .int .i64 h] ++ caps) w1 fun e w' => e = .returned (.bool q1) ∧ w1 = w')
    (h2 : q0 = true → q1 = true → ∀ w1 : World, Below w.heap.size w w1 → Calls Try.prog F (#[.int .i64 2, .int .i64 x] ++ caps) w1 fun e w' => e = .returned (.bool q2) ∧ w1 = w') :
    Calls Try.prog 102 #[.agg #[.int .i64 c, .int .i64 h, .int .i64 x], .func (.func F) #[] caps] w fun e w' => e = .returned (.bool (q0 && (q1 && q2))) ∧ Below w.heap.size w w' := by
  have HF0 := Lib.hid h0; clear h0
  have HF1 := Lib.hid h1; clear h1
  have HF2 := Lib.hid h2; clear h2
  have HB : Hid (Below w.heap.size w (w.alloc (.cells #[.int .i64 c, .int .i64 h, .int .i64 x] 23))) := (Below.refl _ _).alloc (Nat.le_refl _) _
  have i0 : ∀ w : World, (Instr.index 134 (.agg #[.int .i64 c, .int .i64 h, .int .i64 x]) (.int .i64 0)).run Try.prog w = .ok (.int .i64 c) w := fun _ => by kernel_rfl
  have i1 : ∀ w : World, (Instr.index 134 (.agg #[.int .i64 c, .int .i64 h, .int .i64 x]) (.int .i64 1)).run Try.prog w = .ok (.int .i64 h) w := fun _ => by kernel_rfl
  have i2 : ∀ w : World, (Instr.index 134 (.agg #[.int .i64 c, .int .i64 h, .int .i64 x]) (.int .i64 2)).run Try.prog w = .ok (.int .i64 x) w := fun _ => by kernel_rfl
  go_enter Try.func102, Try.ntmps102
  go_wp2_with fail
  go_loop [5, 6, 14] (fun _ _ i => i = .int .i64 0 ∨ (i = .int .i64 1 ∧ Hid (q0 = true)) ∨ (i = .int .i64 2 ∧ Hid (q0 = true ∧ q1 = true)) ∨ (i = .int .i64 3 ∧ Hid (q0 = true ∧ q1 = true ∧ q2 = true))) (fun _ _ i => 3 - (intOf i).toNat)
  case atStart => exact .inl rfl
  case round =>
    rcases hrel with rfl | ⟨rfl, HQ⟩ | ⟨rfl, HQ⟩ | ⟨rfl, HQ⟩
    · go_wp2_with fail
      refine (HF0.out _ HB.out).mono ?_
      rintro e w' ⟨rfl, rfl⟩
      cases q0
      · go_wp2_with fail
        go_ret
        exact ⟨rfl, HB.out⟩
      · go_wp2_with fail
        go_round
        case rel => exact .inr (.inl ⟨rfl, Lib.hid (by simp)⟩)
        case measure => simp [intOf]
    · go_wp2_with fail
      refine (HF1.out HQ.out _ HB.out).mono ?_
      rintro e w' ⟨rfl, rfl⟩
      have HQ' := HQ.out
      subst HQ'
      cases q1
      · go_wp2_with fail
        go_ret
        exact ⟨rfl, HB.out⟩
      · go_wp2_with fail
        go_round
        case rel => exact .inr (.inr (.inl ⟨rfl, Lib.hid (by simp)⟩))
        case measure => simp [intOf]
    · go_wp2_with fail
      refine (HF2.out HQ.out.1 HQ.out.2 _ HB.out).mono ?_
      rintro e w' ⟨rfl, rfl⟩
      obtain ⟨HQ1, HQ2⟩ := HQ.out
      subst HQ1 HQ2
      cases q2
      · go_wp2_with fail
        go_ret
        exact ⟨rfl, HB.out⟩
      · go_wp2_with fail
        go_round
        case rel => exact .inr (.inr (.inr ⟨rfl, Lib.hid (by simp)⟩))
        case measure => simp [intOf]
    · obtain ⟨HQ1, HQ2, HQ3⟩ := HQ.out
      subst HQ1 HQ2 HQ3
      go_wp2_with fail
      go_ret
      exact ⟨rfl, HB.out⟩

end Go.Proofs.Ytnfmpladdfgadaa
