/-
  What At of package shape answers.
-/
import Derived.Test.YtnfmpladdfgadaaSpot
import Derived.Test.YtnfmpladdfgadaaRight
namespace Go.Proofs.Ytnfmpladdfgadaa
open Go.RowKit

/-- The number that is asked for at a place of three. -/
def pickOf (c y x i : Int) : Int := if i = 0 then c else if i = 1 then y else x
set_option maxHeartbeats 400000 in
theorem at1_any (c y x i side : Int) (b : Nat) (w : World) (h0 : 0 ≤ i) (h1 : i < 3) (s0 : 1 ≤ side) (s1 : side ≤ 12)
    (c0 : w.cell? ⟨b, 0, none⟩ = some (.int .i64 c)) (c1 : w.cell? ⟨b, 1, none⟩ = some (.int .i64 y)) (c2 : w.cell? ⟨b, 2, none⟩ = some (.int .i64 x)) :
    Calls Try.prog 107 #[.int .i64 i, .int .i64 side, .pointer (some ⟨b, 0, none⟩)] w fun e w' => e = .returned (.bool (withinB (pickOf c y x i) 0 (side - 1))) ∧ w = w' := by
  have H : Hid (pickOf c y x 0 = c ∧ pickOf c y x 1 = y ∧ pickOf c y x 2 = x) := ⟨rfl, rfl, rfl⟩
  rcases (by omega : i = 0 ∨ i = 1 ∨ i = 2) with h | h | h
  all_goals
    subst h
    clear h0 h1
    go_enter Try.func107, Try.ntmps107
    go_wp2_with fail
    refine (within_any _ _ _ _).mono ?_
    rintro e w' ⟨rfl, rfl⟩
    go_wp2_with fail
    go_ret
    first | exact ⟨ret_bool (by rw [H.out.1]), rfl⟩ | exact ⟨ret_bool (by rw [H.out.2.1]), rfl⟩ | exact ⟨ret_bool (by rw [H.out.2.2]), rfl⟩
/-- What sides answers, of what is asked of each side. -/
def allB (q : Int → Int → Bool) (c h w : Int) : Bool := q 0 c && (q 1 h && q 2 w)
theorem sides_at (k y z c h x : Int) (b : Nat) (w : World) (hb : b < w.heap.size) (r : rightB c h x = true)
    (c0 : w.cell? ⟨b, 0, none⟩ = some (.int .i64 k)) (c1 : w.cell? ⟨b, 1, none⟩ = some (.int .i64 y)) (c2 : w.cell? ⟨b, 2, none⟩ = some (.int .i64 z)) :
    Calls Try.prog 102 #[.agg #[.int .i64 c, .int .i64 h, .int .i64 x], .func (.func 107) #[] #[.pointer (some ⟨b, 0, none⟩)]] w fun e w' => e = .returned (.bool (insideB c h x k y z)) ∧ Below w.heap.size w w' := by
  obtain ⟨a1, a2, a3, a4, a5, a6, a7⟩ := rightB_out r
  have e : insideB c h x k y z = (withinB k 0 (c - 1) && (withinB y 0 (h - 1) && withinB z 0 (x - 1))) := by
    unfold insideB withinB
    rw [r, Bool.true_and, Bool.eq_iff_iff]
    simp
    omega
  rw [e]
  refine sides_core 107 _ _ _ _ c h x w (by intro args w; go_simp) (fun w1 h1 => ?_) (fun _ w1 h1 => ?_) (fun _ _ w1 h1 => ?_)
  · exact at1_any k y z 0 c b w1 (by omega) (by omega) (by omega) (by omega) ((h1.cell (p := ⟨b, 0, none⟩) hb).trans c0) ((h1.cell (p := ⟨b, 1, none⟩) hb).trans c1) ((h1.cell (p := ⟨b, 2, none⟩) hb).trans c2)
  · exact at1_any k y z 1 h b w1 (by omega) (by omega) (by omega) (by omega) ((h1.cell (p := ⟨b, 0, none⟩) hb).trans c0) ((h1.cell (p := ⟨b, 1, none⟩) hb).trans c1) ((h1.cell (p := ⟨b, 2, none⟩) hb).trans c2)
  · exact at1_any k y z 2 x b w1 (by omega) (by omega) (by omega) (by omega) ((h1.cell (p := ⟨b, 0, none⟩) hb).trans c0) ((h1.cell (p := ⟨b, 1, none⟩) hb).trans c1) ((h1.cell (p := ⟨b, 2, none⟩) hb).trans c2)
theorem sides_at_no (k y z c h x : Int) (b : Nat) (w : World) (hb : b < w.heap.size) (r : rightB c h x = true) (s : insideB c h x k y z = false)
    (c0 : w.cell? ⟨b, 0, none⟩ = some (.int .i64 k)) (c1 : w.cell? ⟨b, 1, none⟩ = some (.int .i64 y)) (c2 : w.cell? ⟨b, 2, none⟩ = some (.int .i64 z)) :
    Calls Try.prog 102 #[.agg #[.int .i64 c, .int .i64 h, .int .i64 x], .func (.func 107) #[] #[.pointer (some ⟨b, 0, none⟩)]] w fun e w' => e = .returned (.bool false) ∧ Below w.heap.size w w' := by
  have := sides_at k y z c h x b w hb r c0 c1 c2
  rwa [s] at this
theorem sides_at_yes (k y z c h x : Int) (b : Nat) (w : World) (hb : b < w.heap.size) (r : rightB c h x = true) (s : insideB c h x k y z = true)
    (c0 : w.cell? ⟨b, 0, none⟩ = some (.int .i64 k)) (c1 : w.cell? ⟨b, 1, none⟩ = some (.int .i64 y)) (c2 : w.cell? ⟨b, 2, none⟩ = some (.int .i64 z)) :
    Calls Try.prog 102 #[.agg #[.int .i64 c, .int .i64 h, .int .i64 x], .func (.func 107) #[] #[.pointer (some ⟨b, 0, none⟩)]] w fun e w' => e = .returned (.bool true) ∧ Below w.heap.size w w' := by
  have := sides_at k y z c h x b w hb r c0 c1 c2
  rwa [s] at this
set_option maxHeartbeats 1000000 in
theorem at_any (c h x k y z : Int) (w : World) :
    Calls Try.prog 93 #[.agg #[.int .i64 c, .int .i64 h, .int .i64 x], .int .i64 k, .int .i64 y, .int .i64 z] w fun e w' => e = .returned (.int .i64 (atI c h x k y z)) ∧ Below w.heap.size w w' := by
  cases r : rightB c h x
  · have HS := Lib.hid (atI_no (insideB_wrong (k := k) (y := y) (x := z) r))
    have HR := Lib.hid r; clear r
    go_enter Try.func93, Try.ntmps93
    go_wp2_with fail
    refine (right_no c h x _ HR.out).mono ?_
    rintro e w1 ⟨rfl, hb1⟩
    have HB1 : Hid (Below w.heap.size w w1) := chain (by repeat first | exact Below.refl _ _ | refine chain_alloc ?_ _) hb1
    clear hb1
    go_wp2_with fail
    go_ret
    exact ⟨ret_int HS.out.symm, HB1.out⟩
  · cases s : insideB c h x k y z
    · have HS := Lib.hid (atI_no s)
      have HR := Lib.hid r; clear r
      have HI := Lib.hid s; clear s
      go_enter Try.func93, Try.ntmps93
      go_wp2_with fail
      refine (right_yes c h x _ HR.out).mono ?_
      rintro e w1 ⟨rfl, hb1⟩
      have HB1 : Hid (Below w.heap.size w w1) := chain (by repeat first | exact Below.refl _ _ | refine chain_alloc ?_ _) hb1
      obtain ⟨hc, hf⟩ := bcell hb1
      have hz : w.heap.size + 1 < w1.heap.size := by have := hb1.size; simp at this; omega
      clear hb1
      go_wp2_with fail
      refine (sides_at_no k y z c h x (w.heap.size + 1) _ hz HR.out HI.out (by rw [hc _ _ (by simp)]; simp) (by rw [hc _ _ (by simp)]; simp) (by rw [hc _ _ (by simp)]; simp)).mono ?_
      rintro e w2 ⟨rfl, hb2⟩
      have HB2 : Hid (Below w.heap.size w w2) := chain HB1.out hb2
      clear hb2
      go_wp2_with fail
      go_ret
      exact ⟨ret_int HS.out.symm, HB2.out⟩
    · obtain ⟨b1, b2, b3, b4, b5, b6⟩ := at_small s
      obtain ⟨_, k0, k1, y0, y1, z0, z1⟩ := insideB_out s
      obtain ⟨a1, a2, a3, a4, a5, a6, a7⟩ := rightB_out r
      have HS := Lib.hid (atI_yes s)
      have HR := Lib.hid r; clear r
      have HI := Lib.hid s; clear s
      go_enter Try.func93, Try.ntmps93
      go_wp2_with fail
      refine (right_yes c h x _ HR.out).mono ?_
      rintro e w1 ⟨rfl, hb1⟩
      have HB1 : Hid (Below w.heap.size w w1) := chain (by repeat first | exact Below.refl _ _ | refine chain_alloc ?_ _) hb1
      obtain ⟨hc, hf⟩ := bcell hb1
      have hz : w.heap.size + 1 < w1.heap.size := by have := hb1.size; simp at this; omega
      clear hb1
      go_wp2_with fail
      refine (sides_at_yes k y z c h x (w.heap.size + 1) _ hz HR.out HI.out (by rw [hc _ _ (by simp)]; simp) (by rw [hc _ _ (by simp)]; simp) (by rw [hc _ _ (by simp)]; simp)).mono ?_
      rintro e w2 ⟨rfl, hb2⟩
      have HB2 : Hid (Below w.heap.size w w2) := chain HB1.out hb2
      have g1 : w2.cell? ⟨w.heap.size, 1, none⟩ = some (.int .i64 h) := by rw [hb2.cell (p := ⟨w.heap.size, 1, none⟩) (by show w.heap.size < _; omega), hc _ _ (by simp <;> omega)]; go_simp
      have g2 : w2.cell? ⟨w.heap.size, 2, none⟩ = some (.int .i64 x) := by rw [hb2.cell (p := ⟨w.heap.size, 2, none⟩) (by show w.heap.size < _; omega), hc _ _ (by simp <;> omega)]; go_simp
      clear hb2 hc hf
      go_wp2_with fail
      go_ret
      exact ⟨ret_int HS.out.symm, HB2.out⟩

end Go.Proofs.Ytnfmpladdfgadaa
