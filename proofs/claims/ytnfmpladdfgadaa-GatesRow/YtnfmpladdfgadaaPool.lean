/-
  What Pool of package shape answers.
-/
import Derived.Test.YtnfmpladdfgadaaConv
namespace Go.Proofs.Ytnfmpladdfgadaa
open Go.RowKit

set_option maxHeartbeats 400000 in
theorem pool_wrong (c h x size : Int) (w : World) (r : rightB c h x = false) :
    Calls Try.prog 106 #[.agg #[.int .i64 c, .int .i64 h, .int .i64 x], .int .i64 size] w (Out 0 0 0 false w) := by
  have HR := Lib.hid r; clear r
  go_enter Try.func106, Try.ntmps106
  go_wp2_with fail
  refine (right_no c h x _ HR.out).mono ?_
  rintro e w1 ⟨rfl, hb1⟩
  have HB1 : Hid (Below w.heap.size w w1) := chain (by repeat first | exact Below.refl _ _ | refine chain_alloc ?_ _) hb1
  obtain ⟨hc, hf⟩ := bcell hb1
  have hz : w.heap.size + 1 < w1.heap.size := by have := hb1.size; simp at this; omega
  clear hb1
  go_wp2_with fail
  exact bodyPost_ret (v := .tuple #[.agg #[.int .i64 0, .int .i64 0, .int .i64 0], .bool false]) (by simp [results, Try.results106, go_sem, hc]) rfl ⟨rfl, ((HB1.out.setCell (by simp) _).setCell (by simp) _).setCell (by simp) _⟩
set_option maxHeartbeats 400000 in
theorem pool_low (c h x size : Int) (w : World) (r : rightB c h x = true) (s : size < 1) :
    Calls Try.prog 106 #[.agg #[.int .i64 c, .int .i64 h, .int .i64 x], .int .i64 size] w (Out 0 0 0 false w) := by
  have HR := Lib.hid r; clear r
  go_enter Try.func106, Try.ntmps106
  go_wp2_with fail
  refine (right_yes c h x _ HR.out).mono ?_
  rintro e w1 ⟨rfl, hb1⟩
  have HB1 : Hid (Below w.heap.size w w1) := chain (by repeat first | exact Below.refl _ _ | refine chain_alloc ?_ _) hb1
  obtain ⟨hc, hf⟩ := bcell hb1
  have hz : w.heap.size + 1 < w1.heap.size := by have := hb1.size; simp at this; omega
  clear hb1
  go_wp2_with fail
  exact bodyPost_ret (v := .tuple #[.agg #[.int .i64 0, .int .i64 0, .int .i64 0], .bool false]) (by simp [results, Try.results106, go_sem, hc]) rfl ⟨rfl, ((HB1.out.setCell (by simp) _).setCell (by simp) _).setCell (by simp) _⟩
set_option maxHeartbeats 400000 in
theorem pool_high (c h x size : Int) (w : World) (r : rightB c h x = true) (s : 1 ≤ size) (m : ¬ h % size = 0) :
    Calls Try.prog 106 #[.agg #[.int .i64 c, .int .i64 h, .int .i64 x], .int .i64 size] w (Out 0 0 0 false w) := by
  obtain ⟨a1, a2, a3, a4, a5, a6, a7⟩ := rightB_out r
  have HR := Lib.hid r; clear r
  have n : ¬ size = 0 := by omega
  have m' : (h % size != 0) = true := by simpa using m
  go_enter Try.func106, Try.ntmps106
  go_wp2_with fail
  refine (right_yes c h x _ HR.out).mono ?_
  rintro e w1 ⟨rfl, hb1⟩
  have HB1 : Hid (Below w.heap.size w w1) := chain (by repeat first | exact Below.refl _ _ | refine chain_alloc ?_ _) hb1
  obtain ⟨hc, hf⟩ := bcell hb1
  have hz : w.heap.size + 1 < w1.heap.size := by have := hb1.size; simp at this; omega
  clear hb1
  go_wp2_with fail
  exact bodyPost_ret (v := .tuple #[.agg #[.int .i64 0, .int .i64 0, .int .i64 0], .bool false]) (by simp [results, Try.results106, go_sem, hc]) rfl ⟨rfl, ((HB1.out.setCell (by simp) _).setCell (by simp) _).setCell (by simp) _⟩
set_option maxHeartbeats 400000 in
theorem pool_wide (c h x size : Int) (w : World) (r : rightB c h x = true) (s : 1 ≤ size) (m : h % size = 0) (k : ¬ x % size = 0) :
    Calls Try.prog 106 #[.agg #[.int .i64 c, .int .i64 h, .int .i64 x], .int .i64 size] w (Out 0 0 0 false w) := by
  obtain ⟨a1, a2, a3, a4, a5, a6, a7⟩ := rightB_out r
  have HR := Lib.hid r; clear r
  have n : ¬ size = 0 := by omega
  have k' : (x % size != 0) = true := by simpa using k
  go_enter Try.func106, Try.ntmps106
  go_wp2_with fail
  refine (right_yes c h x _ HR.out).mono ?_
  rintro e w1 ⟨rfl, hb1⟩
  have HB1 : Hid (Below w.heap.size w w1) := chain (by repeat first | exact Below.refl _ _ | refine chain_alloc ?_ _) hb1
  obtain ⟨hc, hf⟩ := bcell hb1
  have hz : w.heap.size + 1 < w1.heap.size := by have := hb1.size; simp at this; omega
  clear hb1
  go_wp2_with fail
  exact bodyPost_ret (v := .tuple #[.agg #[.int .i64 0, .int .i64 0, .int .i64 0], .bool false]) (by simp [results, Try.results106, go_sem, hc]) rfl ⟨rfl, ((HB1.out.setCell (by simp) _).setCell (by simp) _).setCell (by simp) _⟩
set_option maxHeartbeats 400000 in
theorem pool_good (c h x size : Int) (w : World) (r : rightB c h x = true) (s : 1 ≤ size) (m : h % size = 0) (k : x % size = 0) :
    Calls Try.prog 106 #[.agg #[.int .i64 c, .int .i64 h, .int .i64 x], .int .i64 size] w (Out c (h / size) (x / size) true w) := by
  obtain ⟨a1, a2, a3, a4, a5, a6, a7⟩ := rightB_out r
  have HR := Lib.hid r; clear r
  have n : ¬ size = 0 := by omega
  go_enter Try.func106, Try.ntmps106
  go_wp2_with fail
  refine (right_yes c h x _ HR.out).mono ?_
  rintro e w1 ⟨rfl, hb1⟩
  have HB1 : Hid (Below w.heap.size w w1) := chain (by repeat first | exact Below.refl _ _ | refine chain_alloc ?_ _) hb1
  obtain ⟨hc, hf⟩ := bcell hb1
  have hz : w.heap.size + 1 < w1.heap.size := by have := hb1.size; simp at this; omega
  clear hb1
  have g0 : w1.cell? ⟨w.heap.size, 0, none⟩ = some (.int .i64 c) := by rw [hc _ _ (by simp <;> omega)]; go_simp
  have g1 : w1.cell? ⟨w.heap.size, 1, none⟩ = some (.int .i64 h) := by rw [hc _ _ (by simp <;> omega)]; go_simp
  have g2 : w1.cell? ⟨w.heap.size, 2, none⟩ = some (.int .i64 x) := by rw [hc _ _ (by simp <;> omega)]; go_simp
  go_wp2_with fail
  go_region
  go_wp2_with fail
  exact bodyPost_ret (v := .tuple #[.agg #[.int .i64 c, .int .i64 (h / size), .int .i64 (x / size)], .bool true]) (by simp [results, Try.results106, go_sem, hc]) rfl ⟨rfl, ((HB1.out.drew.setCell (by simp) _).setCell (by simp) _).setCell (by simp) _⟩
theorem pool_any (c h x size : Int) (w : World) :
    Calls Try.prog 106 #[.agg #[.int .i64 c, .int .i64 h, .int .i64 x], .int .i64 size] w (Out (poolC c h x size) (poolH c h x size) (poolW c h x size) (poolB c h x size) w) := by
  cases f : poolB c h x size
  · have n := pool_none f
    rw [n.1, n.2.1, n.2.2]
    cases r : rightB c h x
    · exact pool_wrong c h x size w r
    by_cases s : size < 1
    · exact pool_low c h x size w r s
    by_cases m : h % size = 0
    · by_cases k : x % size = 0
      · rw [poolB_yes ⟨r, by omega, m, k⟩] at f
        cases f
      · exact pool_wide c h x size w r (by omega) m k
    · exact pool_high c h x size w r (by omega) m
  · obtain ⟨r, s, m, k⟩ := poolB_out f
    have i := pool_is f
    rw [i.1, i.2.1, i.2.2]
    exact pool_good c h x size w r s m k

end Go.Proofs.Ytnfmpladdfgadaa
