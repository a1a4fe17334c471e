/-
  What Of of package shape answers.
-/
import Derived.Test.YtnfmpladdfgadaaAt
namespace Go.Proofs.Ytnfmpladdfgadaa
open Go.RowKit

theorem four_out {fn : Func} {p q r s : Tmp} (e : fn.results = #[.tmp p, .tmp q, .tmp r, .tmp s]) (ts : Array Value) (P : Program) (w : World) :
    (results fn ts).run P w = .ok (.tuple #[ts.getD p undef, ts.getD q undef, ts.getD r undef, ts.getD s undef]) w := by simp [results, e]
theorem chain_drewN {w W : World} (h : Below w.heap.size w W) (n : Nat) : Below w.heap.size w (W.drewN n) := ⟨h.os, h.tape, h.output, h.size, h.block⟩
theorem ret_of {a b c a' b' c' : Int} {i i' : Bool} (h : a = a' ∧ b = b' ∧ c = c' ∧ i = i') :
    Ending.returned (.tuple #[.int .i64 a, .int .i64 b, .int .i64 c, .bool i]) = .returned (.tuple #[.int .i64 a', .int .i64 b', .int .i64 c', .bool i']) := by
  obtain ⟨rfl, rfl, rfl, rfl⟩ := h; rfl
theorem has_within (c h x i : Int) : withinB i 0 (sizeI c h x - 1) = hasB c h x i := by
  unfold withinB hasB
  rw [Bool.eq_iff_iff]; simp; omega
theorem within_has (c h x i : Int) (r : Bool) (e : hasB c h x i = r) (w : World) :
    Calls Try.prog 104 #[.int .i64 i, .int .i64 0, .int .i64 (sizeI c h x - 1)] w fun e w' => e = .returned (.bool r) ∧ w = w' := by
  have := within_any i 0 (sizeI c h x - 1) w
  rwa [has_within, e] at this
set_option maxHeartbeats 1000000 in
theorem of_any (c h x i : Int) (w : World) :
    Calls Try.prog 91 #[.agg #[.int .i64 c, .int .i64 h, .int .i64 x], .int .i64 i] w fun e w' =>
      e = .returned (.tuple #[.int .i64 (chI c h x i), .int .i64 (rowI c h x i), .int .i64 (colI c h x i), .bool (hasB c h x i)]) ∧ Below w.heap.size w w' := by
  have sb := sizeI_bd c h x
  obtain ⟨sb1, sb2⟩ := sb
  cases r : hasB c h x i
  · have HS := Lib.hid (of_no r)
    have HR := Lib.hid r; clear r
    go_enter Try.func91, Try.ntmps91
    go_wp2_with fail
    refine (size_any c h x _).mono ?_
    rintro e w1 ⟨rfl, hb1⟩
    have HB1 : Hid (Below w.heap.size w w1) := chain (by repeat first | exact Below.refl _ _ | refine chain_alloc ?_ _) hb1
    clear hb1
    go_wp2_with fail
    refine (within_has c h x i _ HR.out _).mono ?_
    rintro e w' ⟨rfl, rfl⟩
    go_wp2_with fail
    refine bodyPost_ret (four_out rfl _ _ _) rfl ?_
    exact ⟨ret_of ⟨HS.out.1.symm, HS.out.2.1.symm, HS.out.2.2.symm, rfl⟩, HB1.out⟩
  · obtain ⟨i0, i1⟩ := hasB_out r
    obtain ⟨a1, a2, a3, a4, a5, a6, a7⟩ := rightB_out (hasB_right r)
    obtain ⟨b1, b2, b3, b4, b5, b6⟩ := prod_small a1 a2 a3 a4 a5 a6
    have n1 : ¬ h * x = 0 := by omega
    have n2 : ¬ h = 0 := by omega
    have n3 : ¬ x = 0 := by omega
    have q1 : 0 ≤ i / x := Int.ediv_nonneg i0 (by omega)
    have HS := Lib.hid (of_yes r)
    have HR := Lib.hid r; clear r
    go_enter Try.func91, Try.ntmps91
    go_wp2_with fail
    refine (size_any c h x _).mono ?_
    rintro e w1 ⟨rfl, hb1⟩
    have HB1 : Hid (Below w.heap.size w w1) := chain (by repeat first | exact Below.refl _ _ | refine chain_alloc ?_ _) hb1
    have g1 : w1.cell? ⟨w.heap.size, 1, none⟩ = some (.int .i64 h) := by rw [hb1.cell (p := ⟨w.heap.size, 1, none⟩) (by show w.heap.size < _; simp)]; go_simp
    have g2 : w1.cell? ⟨w.heap.size, 2, none⟩ = some (.int .i64 x) := by rw [hb1.cell (p := ⟨w.heap.size, 2, none⟩) (by show w.heap.size < _; simp)]; go_simp
    clear hb1
    go_wp2_with fail
    refine (within_has c h x i _ HR.out _).mono ?_
    rintro e w' ⟨rfl, rfl⟩
    go_wp2_with fail
    go_quiet (fail)
    go_wp2_with fail
    refine bodyPost_ret (four_out rfl _ _ _) rfl ?_
    exact ⟨ret_of ⟨HS.out.1.symm, HS.out.2.1.symm, HS.out.2.2.symm, rfl⟩, chain_drewN HB1.out _⟩

end Go.Proofs.Ytnfmpladdfgadaa
