/-
  What Conv of package shape answers.
-/
import Derived.Test.YtnfmpladdfgadaaRight
import Derived.Test.YtnfmpladdfgadaaMath3
namespace Go.Proofs.Ytnfmpladdfgadaa
open Go.RowKit

theorem within_is (n l m : Int) (r : Bool) (e : withinB n l m = r) (w : World) :
    Calls Try.prog 104 #[.int .i64 n, .int .i64 l, .int .i64 m] w fun e w' => e = .returned (.bool r) ∧ w = w' := by
  have := within_any n l m w
  rwa [e] at this
/-- A shape and a word are handed out. -/
def Out (c h x : Int) (b : Bool) (w : World) (e : Ending) (w' : World) : Prop :=
  e = .returned (.tuple #[.agg #[.int .i64 c, .int .i64 h, .int .i64 x], .bool b]) ∧ Below w.heap.size w w'
theorem Out.of {c h x c' h' x' : Int} {b b' : Bool} {w : World} {e : Ending} {w' : World} (h1 : Out c h x b w e w') (h2 : c = c' ∧ h = h' ∧ x = x' ∧ b = b') : Out c' h' x' b' w e w' := by
  obtain ⟨rfl, rfl, rfl, rfl⟩ := h2; exact h1
set_option maxHeartbeats 400000 in
theorem conv_wrong (c h x out size step : Int) (w : World) (r : rightB c h x = false) :
    Calls Try.prog 105 #[.agg #[.int .i64 c, .int .i64 h, .int .i64 x], .int .i64 out, .int .i64 size, .int .i64 step] w (Out 0 0 0 false w) := by
  have HR := Lib.hid r; clear r
  go_enter Try.func105, Try.ntmps105
  go_wp2_with fail
  refine (right_no c h x _ HR.out).mono ?_
  rintro e w1 ⟨rfl, hb1⟩
  have HB1 : Hid (Below w.heap.size w w1) := chain (by repeat first | exact Below.refl _ _ | refine chain_alloc ?_ _) hb1
  obtain ⟨hc, hf⟩ := bcell hb1
  clear hb1
  go_wp2_with fail
  exact bodyPost_ret (v := .tuple #[.agg #[.int .i64 0, .int .i64 0, .int .i64 0], .bool false]) (by simp [results, Try.results105, go_sem, hc]) rfl ⟨rfl, ((HB1.out.setCell (by simp) _).setCell (by simp) _).setCell (by simp) _⟩
set_option maxHeartbeats 400000 in
theorem conv_out (c h x out size step : Int) (w : World) (r : rightB c h x = true) (o : withinB out 1 8 = false) :
    Calls Try.prog 105 #[.agg #[.int .i64 c, .int .i64 h, .int .i64 x], .int .i64 out, .int .i64 size, .int .i64 step] w (Out 0 0 0 false w) := by
  have HO := Lib.hid o; clear o
  have HR := Lib.hid r; clear r
  go_enter Try.func105, Try.ntmps105
  go_wp2_with fail
  refine (right_yes c h x _ HR.out).mono ?_
  rintro e w1 ⟨rfl, hb1⟩
  have HB1 : Hid (Below w.heap.size w w1) := chain (by repeat first | exact Below.refl _ _ | refine chain_alloc ?_ _) hb1
  obtain ⟨hc, hf⟩ := bcell hb1
  have hz : w.heap.size + 1 < w1.heap.size := by have := hb1.size; simp at this; omega
  clear hb1
  go_wp2_with fail
  refine (within_is out 1 8 _ HO.out _).mono ?_
  rintro e w' ⟨rfl, rfl⟩
  go_wp2_with fail
  exact bodyPost_ret (v := .tuple #[.agg #[.int .i64 0, .int .i64 0, .int .i64 0], .bool false]) (by simp [results, Try.results105, go_sem, hc]) rfl ⟨rfl, ((HB1.out.setCell (by simp) _).setCell (by simp) _).setCell (by simp) _⟩
set_option maxHeartbeats 400000 in
theorem conv_size (c h x out size step : Int) (m : Int) (w : World) (r : rightB c h x = true) (o : withinB out 1 8 = true) (s : withinB size 1 m = false) (hm : (h ≤ x ∧ h = m) ∨ (x < h ∧ x = m)) :
    Calls Try.prog 105 #[.agg #[.int .i64 c, .int .i64 h, .int .i64 x], .int .i64 out, .int .i64 size, .int .i64 step] w (Out 0 0 0 false w) := by
  have HO := Lib.hid o; clear o
  have HS := Lib.hid s; clear s
  rcases hm with ⟨hm, rfl⟩ | ⟨hm, rfl⟩
  all_goals
    have HR := Lib.hid r; clear r
    go_enter Try.func105, Try.ntmps105
    go_wp2_with fail
    refine (right_yes c h x _ HR.out).mono ?_
    rintro e w1 ⟨rfl, hb1⟩
    have HB1 : Hid (Below w.heap.size w w1) := chain (by repeat first | exact Below.refl _ _ | refine chain_alloc ?_ _) hb1
    obtain ⟨hc, hf⟩ := bcell hb1
    have hz : w.heap.size + 1 < w1.heap.size := by have := hb1.size; simp at this; omega
    clear hb1
    go_wp2_with fail
    refine (within_is out 1 8 _ HO.out _).mono ?_
    rintro e w' ⟨rfl, rfl⟩
    go_wp2_with fail
    refine (within_is size 1 _ _ HS.out _).mono ?_
    rintro e w' ⟨rfl, rfl⟩
    go_wp2_with fail
    exact bodyPost_ret (v := .tuple #[.agg #[.int .i64 0, .int .i64 0, .int .i64 0], .bool false]) (by simp [results, Try.results105, go_sem, hc]) rfl ⟨rfl, ((HB1.out.setCell (by simp) _).setCell (by simp) _).setCell (by simp) _⟩
set_option maxHeartbeats 400000 in
theorem conv_step (c h x out size step : Int) (m : Int) (w : World) (r : rightB c h x = true) (o : withinB out 1 8 = true) (s : withinB size 1 m = true) (t : withinB step 1 12 = false) (hm : (h ≤ x ∧ h = m) ∨ (x < h ∧ x = m)) :
    Calls Try.prog 105 #[.agg #[.int .i64 c, .int .i64 h, .int .i64 x], .int .i64 out, .int .i64 size, .int .i64 step] w (Out 0 0 0 false w) := by
  have HO := Lib.hid o; clear o
  have HS := Lib.hid s; clear s
  have HT := Lib.hid t; clear t
  rcases hm with ⟨hm, rfl⟩ | ⟨hm, rfl⟩
  all_goals
    have HR := Lib.hid r; clear r
    go_enter Try.func105, Try.ntmps105
    go_wp2_with fail
    refine (right_yes c h x _ HR.out).mono ?_
    rintro e w1 ⟨rfl, hb1⟩
    have HB1 : Hid (Below w.heap.size w w1) := chain (by repeat first | exact Below.refl _ _ | refine chain_alloc ?_ _) hb1
    obtain ⟨hc, hf⟩ := bcell hb1
    have hz : w.heap.size + 1 < w1.heap.size := by have := hb1.size; simp at this; omega
    clear hb1
    go_wp2_with fail
    refine (within_is out 1 8 _ HO.out _).mono ?_
    rintro e w' ⟨rfl, rfl⟩
    go_wp2_with fail
    refine (within_is size 1 _ _ HS.out _).mono ?_
    rintro e w' ⟨rfl, rfl⟩
    go_wp2_with fail
    refine (within_is step 1 12 _ HT.out _).mono ?_
    rintro e w' ⟨rfl, rfl⟩
    go_wp2_with fail
    exact bodyPost_ret (v := .tuple #[.agg #[.int .i64 0, .int .i64 0, .int .i64 0], .bool false]) (by simp [results, Try.results105, go_sem, hc]) rfl ⟨rfl, ((HB1.out.setCell (by simp) _).setCell (by simp) _).setCell (by simp) _⟩
set_option maxHeartbeats 400000 in
theorem conv_next (c h x out size step : Int) (m : Int) (w : World) (r : rightB c h x = true) (o : withinB out 1 8 = true) (s : withinB size 1 m = true) (t : withinB step 1 12 = true) (hm : (h ≤ x ∧ h = m) ∨ (x < h ∧ x = m))
    (n : rightB out ((h - size) / step + 1) ((x - size) / step + 1) = false) :
    Calls Try.prog 105 #[.agg #[.int .i64 c, .int .i64 h, .int .i64 x], .int .i64 out, .int .i64 size, .int .i64 step] w (Out 0 0 0 false w) := by
  obtain ⟨s1, s2⟩ := withinB_out s
  obtain ⟨t1, t2⟩ := withinB_out t
  obtain ⟨a1, a2, a3, a4, a5, a6, a7⟩ := rightB_out r
  obtain ⟨d1, d2⟩ := wins_bd a3 a4 s1 (by omega) t1
  obtain ⟨d3, d4⟩ := wins_bd a5 a6 s1 (by omega) t1
  have e1 : 0 ≤ h - size := by omega
  have e2 : 0 ≤ x - size := by omega
  have e3 : ¬ step = 0 := by omega
  have HO := Lib.hid o; clear o
  have HS := Lib.hid s; clear s
  have HT := Lib.hid t; clear t
  have HN := Lib.hid n; clear n
  have HR := Lib.hid r; clear r
  rcases hm with ⟨hm, rfl⟩ | ⟨hm, rfl⟩
  all_goals
    go_enter Try.func105, Try.ntmps105
    go_wp2_with fail
    refine (right_yes c h x _ HR.out).mono ?_
    rintro e w1 ⟨rfl, hb1⟩
    have HB1 : Hid (Below w.heap.size w w1) := chain (by repeat first | exact Below.refl _ _ | refine chain_alloc ?_ _) hb1
    obtain ⟨hc, hf⟩ := bcell hb1
    have hz : w.heap.size + 1 < w1.heap.size := by have := hb1.size; simp at this; omega
    have g1 : w1.cell? ⟨w.heap.size, 1, none⟩ = some (.int .i64 h) := by rw [hc _ _ (by simp <;> omega)]; go_simp
    have g2 : w1.cell? ⟨w.heap.size, 2, none⟩ = some (.int .i64 x) := by rw [hc _ _ (by simp <;> omega)]; go_simp
    have hz0 : w.heap.size < w1.heap.size := by omega
    clear hb1
    go_wp2_with fail
    refine (within_is out 1 8 _ HO.out _).mono ?_
    rintro e w' ⟨rfl, rfl⟩
    go_wp2_with fail
    refine (within_is size 1 _ _ HS.out _).mono ?_
    rintro e w' ⟨rfl, rfl⟩
    go_wp2_with fail
    refine (within_is step 1 12 _ HT.out _).mono ?_
    rintro e w' ⟨rfl, rfl⟩
    go_wp2_with fail
    go_region
    go_wp2_with fail
    refine (right_no out ((h - size) / step + 1) ((x - size) / step + 1) _ HN.out).mono ?_
    rintro e w2 ⟨rfl, hb2⟩
    have HB2 : Hid (Below w.heap.size w w2) := chain ((chain_alloc HB1.out _).drew) hb2
    have q1 : w2.heap.size > w1.heap.size := by have := hb2.size; simp at this; omega
    have k0 : ∀ o, w2.cell? ⟨w.heap.size + 1, o, none⟩ = w1.cell? ⟨w.heap.size + 1, o, none⟩ := fun o => by
      rw [hb2.cell (p := ⟨w.heap.size + 1, o, none⟩) (by show w.heap.size + 1 < _; simp; omega)]; go_simp
    have k1 : ∀ o, w2.frozen? ⟨w.heap.size + 1, o, none⟩ = w1.frozen? ⟨w.heap.size + 1, o, none⟩ := fun o => by
      rw [hb2.frozen (p := ⟨w.heap.size + 1, o, none⟩) (by show w.heap.size + 1 < _; simp; omega)]; go_simp
    have k2 : w2.cell? ⟨w1.heap.size, 0, none⟩ = some (.int .i64 out) := by
      rw [hb2.cell (p := ⟨w1.heap.size, 0, none⟩) (by show w1.heap.size < _; simp)]; go_simp
    have k3 : w2.cell? ⟨w1.heap.size, 1, none⟩ = some (.int .i64 ((h - size) / step + 1)) := by
      rw [hb2.cell (p := ⟨w1.heap.size, 1, none⟩) (by show w1.heap.size < _; simp)]; go_simp
    have k4 : w2.cell? ⟨w1.heap.size, 2, none⟩ = some (.int .i64 ((x - size) / step + 1)) := by
      rw [hb2.cell (p := ⟨w1.heap.size, 2, none⟩) (by show w1.heap.size < _; simp)]; go_simp
    clear hb2
    go_wp2_with fail
    exact bodyPost_ret (v := .tuple #[.agg #[.int .i64 0, .int .i64 0, .int .i64 0], .bool false]) (by simp [results, Try.results105, go_sem, k0, hc]) rfl ⟨rfl, ((HB2.out.setCell (by simp) _).setCell (by simp) _).setCell (by simp) _⟩
set_option maxHeartbeats 400000 in
theorem conv_good (c h x out size step : Int) (m : Int) (w : World) (r : rightB c h x = true) (o : withinB out 1 8 = true) (s : withinB size 1 m = true) (t : withinB step 1 12 = true) (hm : (h ≤ x ∧ h = m) ∨ (x < h ∧ x = m))
    (n : rightB out ((h - size) / step + 1) ((x - size) / step + 1) = true) :
    Calls Try.prog 105 #[.agg #[.int .i64 c, .int .i64 h, .int .i64 x], .int .i64 out, .int .i64 size, .int .i64 step] w (Out out ((h - size) / step + 1) ((x - size) / step + 1) true w) := by
  obtain ⟨s1, s2⟩ := withinB_out s
  obtain ⟨t1, t2⟩ := withinB_out t
  obtain ⟨a1, a2, a3, a4, a5, a6, a7⟩ := rightB_out r
  obtain ⟨d1, d2⟩ := wins_bd a3 a4 s1 (by omega) t1
  obtain ⟨d3, d4⟩ := wins_bd a5 a6 s1 (by omega) t1
  have e1 : 0 ≤ h - size := by omega
  have e2 : 0 ≤ x - size := by omega
  have e3 : ¬ step = 0 := by omega
  have HO := Lib.hid o; clear o
  have HS := Lib.hid s; clear s
  have HT := Lib.hid t; clear t
  have HN := Lib.hid n; clear n
  have HR := Lib.hid r; clear r
  rcases hm with ⟨hm, rfl⟩ | ⟨hm, rfl⟩
  all_goals
    go_enter Try.func105, Try.ntmps105
    go_wp2_with fail
    refine (right_yes c h x _ HR.out).mono ?_
    rintro e w1 ⟨rfl, hb1⟩
    have HB1 : Hid (Below w.heap.size w w1) := chain (by repeat first | exact Below.refl _ _ | refine chain_alloc ?_ _) hb1
    obtain ⟨hc, hf⟩ := bcell hb1
    have hz : w.heap.size + 1 < w1.heap.size := by have := hb1.size; simp at this; omega
    have g1 : w1.cell? ⟨w.heap.size, 1, none⟩ = some (.int .i64 h) := by rw [hc _ _ (by simp <;> omega)]; go_simp
    have g2 : w1.cell? ⟨w.heap.size, 2, none⟩ = some (.int .i64 x) := by rw [hc _ _ (by simp <;> omega)]; go_simp
    have hz0 : w.heap.size < w1.heap.size := by omega
    clear hb1
    go_wp2_with fail
    refine (within_is out 1 8 _ HO.out _).mono ?_
    rintro e w' ⟨rfl, rfl⟩
    go_wp2_with fail
    refine (within_is size 1 _ _ HS.out _).mono ?_
    rintro e w' ⟨rfl, rfl⟩
    go_wp2_with fail
    refine (within_is step 1 12 _ HT.out _).mono ?_
    rintro e w' ⟨rfl, rfl⟩
    go_wp2_with fail
    go_region
    go_wp2_with fail
    refine (right_yes out ((h - size) / step + 1) ((x - size) / step + 1) _ HN.out).mono ?_
    rintro e w2 ⟨rfl, hb2⟩
    have HB2 : Hid (Below w.heap.size w w2) := chain ((chain_alloc HB1.out _).drew) hb2
    have q1 : w2.heap.size > w1.heap.size := by have := hb2.size; simp at this; omega
    have k0 : ∀ o, w2.cell? ⟨w.heap.size + 1, o, none⟩ = w1.cell? ⟨w.heap.size + 1, o, none⟩ := fun o => by
      rw [hb2.cell (p := ⟨w.heap.size + 1, o, none⟩) (by show w.heap.size + 1 < _; simp; omega)]; go_simp
    have k1 : ∀ o, w2.frozen? ⟨w.heap.size + 1, o, none⟩ = w1.frozen? ⟨w.heap.size + 1, o, none⟩ := fun o => by
      rw [hb2.frozen (p := ⟨w.heap.size + 1, o, none⟩) (by show w.heap.size + 1 < _; simp; omega)]; go_simp
    have k2 : w2.cell? ⟨w1.heap.size, 0, none⟩ = some (.int .i64 out) := by
      rw [hb2.cell (p := ⟨w1.heap.size, 0, none⟩) (by show w1.heap.size < _; simp)]; go_simp
    have k3 : w2.cell? ⟨w1.heap.size, 1, none⟩ = some (.int .i64 ((h - size) / step + 1)) := by
      rw [hb2.cell (p := ⟨w1.heap.size, 1, none⟩) (by show w1.heap.size < _; simp)]; go_simp
    have k4 : w2.cell? ⟨w1.heap.size, 2, none⟩ = some (.int .i64 ((x - size) / step + 1)) := by
      rw [hb2.cell (p := ⟨w1.heap.size, 2, none⟩) (by show w1.heap.size < _; simp)]; go_simp
    clear hb2
    go_wp2_with fail
    exact bodyPost_ret (v := .tuple #[.agg #[.int .i64 out, .int .i64 ((h - size) / step + 1), .int .i64 ((x - size) / step + 1)], .bool true]) (by simp [results, Try.results105, go_sem, k0, hc]) rfl ⟨rfl, ((HB2.out.setCell (by simp) _).setCell (by simp) _).setCell (by simp) _⟩
theorem conv_any (c h x out size step : Int) (w : World) :
    Calls Try.prog 105 #[.agg #[.int .i64 c, .int .i64 h, .int .i64 x], .int .i64 out, .int .i64 size, .int .i64 step] w (Out (convC c h x out size step) (convH c h x out size step) (convW c h x out size step) (convB c h x out size step) w) := by
  have hm : (h ≤ x ∧ h = min h x) ∨ (x < h ∧ x = min h x) := by omega
  cases f : convB c h x out size step
  · have n := conv_none f
    rw [n.1, n.2.1, n.2.2]
    cases r : rightB c h x
    · exact conv_wrong c h x out size step w r
    cases o : withinB out 1 8
    · exact conv_out c h x out size step w r o
    cases s : withinB size 1 (min h x)
    · exact conv_size c h x out size step _ w r o s hm
    cases t : withinB step 1 12
    · exact conv_step c h x out size step _ w r o s t hm
    cases n : rightB out ((h - size) / step + 1) ((x - size) / step + 1)
    · exact conv_next c h x out size step _ w r o s t hm n
    · have o := withinB_out o
      have s := withinB_out s
      have t := withinB_out t
      rw [convB_yes ⟨r, o.1, o.2, s.1, s.2, t.1, t.2, n⟩] at f
      cases f
  · obtain ⟨r, o1, o2, s1, s2, t1, t2, n⟩ := convB_out f
    have k := conv_is f
    rw [k.1, k.2.1, k.2.2]
    exact conv_good c h x out size step _ w r (withinB_yes o1 o2) (withinB_yes s1 s2) (withinB_yes t1 t2) hm n

end Go.Proofs.Ytnfmpladdfgadaa
