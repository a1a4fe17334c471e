/-
  What formed answers of a layer.
-/
import Derived.Test.YtnfmpladdfgadaaPtr
namespace Go.Proofs.Ytnfmpladdfgadaa
open Go.RowKit

theorem ly_eq (a b c d e f g h : Int) (w : World) (r : Bool) (hr : (a == e && (b == f && (c == g && d == h))) = r) :
    (binOp .eql 133 (.agg #[.int .i64 a, .int .i64 b, .int .i64 c, .int .i64 d]) (.agg #[.int .i64 e, .int .i64 f, .int .i64 g, .int .i64 h])).run Try.prog w = .ok (.bool r) w := by
  rw [← hr]
  cases h1 : a == e <;> cases h2 : b == f <;> cases h3 : c == g <;> cases h4 : d == h <;> go_simp <;> simp_all
theorem enter111 : ∀ args w, Sem.run Try.prog (callFunc 111 args) w = .ok (.enter 111 args) w := fun args w => by go_simp
theorem enter100 : ∀ args w, Sem.run Try.prog (callFunc 100 args) w = .ok (.enter 100 args) w := fun args w => by go_simp
theorem ib_box (w : World) (T : Nat) (l : List Int) : IB (w.alloc (.cells (ic l) T)) w.heap.size T l := by
  show (w.heap.push _)[w.heap.size]? = _
  simp
theorem offs_lt {k : Int} : ∀ o ∈ offs k, o < 4 := by
  unfold offs
  split
  · decide
  · split
    · decide
    · split <;> decide
theorem offs_len (k : Int) : (offs k).length ≤ 3 := by
  unfold offs
  split
  · decide
  · split
    · decide
    · split <;> decide
theorem vals_nums (l : Ly) : valsAt [l.k, l.o, l.s, l.t] (offs l.k) = nums l := by
  unfold valsAt offs nums
  split
  · rfl
  · split
    · rfl
    · split <;> rfl
theorem ly_numbers (b : Nat) (k : Int) (r : List Int) : ∀ w, IB w b 133 (k :: r) → Calls Try.prog 111 #[.pointer (some ⟨b, 0, none⟩)] w (NumsPost b (offs k) w) :=
  fun w h => lay_numbers k b w (h.cell (j := 0) (by simp))
theorem pic_nums (b : Nat) (l : List Int) : ∀ w, IB w b 129 l → Calls Try.prog 100 #[.pointer (some ⟨b, 0, none⟩)] w (NumsPost b [0, 1, 2] w) :=
  fun w _ => pic_numbers b w
theorem ly_within (L : Ly) (b : Nat) (w : World) (h : IB w b 133 [L.k, L.o, L.s, L.t]) :
    Calls Try.prog 99 #[.func (.func 111) #[.pointer (some ⟨b, 0, none⟩)] #[]] w fun e w' => e = .returned (.bool ((nums L).all winB)) ∧ Below w.heap.size w w' := by
  have := numbers_within 111 b 133 [L.k, L.o, L.s, L.t] (offs L.k) w h offs_lt (by have := offs_len L.k; omega) enter111 (ly_numbers b _ _)
  rwa [vals_nums] at this
set_option maxHeartbeats 1000000 in
theorem formed_out (k o s t : Int) (w : World) (h : k ≤ 0 ∨ 5 ≤ k) :
    Calls Try.prog 101 #[.agg #[.int .i64 k, .int .i64 o, .int .i64 s, .int .i64 t]] w fun e w' => e = .returned (.bool false) ∧ Below w.heap.size w w' := by
  rcases h with h | h
  · have d1 : decide (k ≤ 0) = true := by simpa using h
    go_enter Try.func101, Try.ntmps101
    go_wp2_with fail
    go_ret
    exact ⟨rfl, (Below.refl _ w).alloc (Nat.le_refl _) _⟩
  · have d1 : decide (k ≤ 0) = false := by simp; omega
    have d2 : decide (5 ≤ k) = true := by simpa using h
    go_enter Try.func101, Try.ntmps101
    go_wp2_with fail
    go_ret
    exact ⟨rfl, (Below.refl _ w).alloc (Nat.le_refl _) _⟩
set_option maxHeartbeats 1000000 in
theorem formed_not (k o s t : Int) (w : World) (h1 : 1 ≤ k) (h4 : k ≤ 4) (hw : (nums ⟨k, o, s, t⟩).all winB = false) :
    Calls Try.prog 101 #[.agg #[.int .i64 k, .int .i64 o, .int .i64 s, .int .i64 t]] w fun e w' => e = .returned (.bool false) ∧ Below w.heap.size w w' := by
  have d1 : decide (k ≤ 0) = false := by simp; omega
  have d2 : decide (5 ≤ k) = false := by simp; omega
  have HW := Lib.hid hw
  clear hw
  go_enter Try.func101, Try.ntmps101
  go_wp2_with fail
  refine (ly_within ⟨k, o, s, t⟩ w.heap.size _ (ib_box w 133 [k, o, s, t])).mono ?_
  rintro e w1 ⟨rfl, hb⟩
  rw [HW.out]
  have HB := Lib.hid (((Below.refl w.heap.size w).alloc (Nat.le_refl _) _).trans (hb.mono (by simp)))
  clear hb
  go_wp2_with fail
  go_ret
  exact ⟨rfl, HB.out⟩
theorem ib4 {w : World} {b T : Nat} {k o s t : Int} (h : IB w b T [k, o, s, t]) :
    w.cell? ⟨b, 0, none⟩ = some (.int .i64 k) ∧ w.cell? ⟨b, 1, none⟩ = some (.int .i64 o) ∧ w.cell? ⟨b, 2, none⟩ = some (.int .i64 s) ∧ w.cell? ⟨b, 3, none⟩ = some (.int .i64 t) ∧
    w.frozen? ⟨b, 0, none⟩ = false ∧ w.frozen? ⟨b, 1, none⟩ = false ∧ w.frozen? ⟨b, 2, none⟩ = false ∧ w.frozen? ⟨b, 3, none⟩ = false :=
  ⟨h.cell (j := 0) (by simp), h.cell (j := 1) (by simp), h.cell (j := 2) (by simp), h.cell (j := 3) (by simp), Lib.frozen_of_heap h 0, Lib.frozen_of_heap h 1, Lib.frozen_of_heap h 2, Lib.frozen_of_heap h 3⟩
set_option maxHeartbeats 2000000 in
theorem formed_square (o s t : Int) (w : World) (r : Bool) (hr : (o == 0 && (s == 0 && t == 0)) = r) :
    Calls Try.prog 101 #[.agg #[.int .i64 2, .int .i64 o, .int .i64 s, .int .i64 t]] w fun e w' => e = .returned (.bool r) ∧ Below w.heap.size w w' := by
  have q := fun w => ly_eq 2 o s t 2 0 0 0 w r (by rw [← hr]; rfl)
  clear hr
  go_enter Try.func101, Try.ntmps101
  go_wp2_with fail
  refine (ly_within ⟨2, o, s, t⟩ w.heap.size _ (ib_box w 133 [2, o, s, t])).mono ?_
  rintro e w1 ⟨rfl, hb⟩
  have hI := (ib_box w 133 [2, o, s, t]).below hb
  have HI := Lib.hid hI
  have HB := Lib.hid (((Below.refl w.heap.size w).alloc (Nat.le_refl _) _).trans (hb.mono (by simp)))
  have hs1 := hI.lt
  clear hb hI
  rw [show (nums ⟨2, o, s, t⟩).all winB = true from rfl]
  go_wp2_with fail
  refine (ly_numbers w.heap.size 2 [o, s, t] w1 HI.out).mono ?_
  rintro e w2 ⟨A, c, n, rfl, hn, hR, hb2⟩
  obtain rfl : n = 0 := hn
  obtain ⟨c0, c1, c2, c3, f0, f1, f2, f3⟩ := ib4 (HI.out.below hb2)
  have HB2 := Lib.hid (HB.out.trans (hb2.mono HB.out.size))
  clear hR
  clear hb2 HI HB hs1
  go_wp2_with fail
  refine wp_loop_rounds 1 ?_
  rw [rounds_succ]
  go_wp2
  go_ret
  exact ⟨rfl, HB2.out⟩
set_option maxHeartbeats 2000000 in
theorem formed_conv (o s t : Int) (w : World) (r : Bool) (hr : true = r) (hw : (nums ⟨1, o, s, t⟩).all winB = true) :
    Calls Try.prog 101 #[.agg #[.int .i64 1, .int .i64 o, .int .i64 s, .int .i64 t]] w fun e w' => e = .returned (.bool r) ∧ Below w.heap.size w w' := by
  have q := fun w => ly_eq 1 0 0 0 1 0 0 0 w r (by rw [← hr]; rfl)
  have HW := Lib.hid hw
  clear hw hr
  go_enter Try.func101, Try.ntmps101
  go_wp2_with fail
  refine (ly_within ⟨1, o, s, t⟩ w.heap.size _ (ib_box w 133 [1, o, s, t])).mono ?_
  rintro e w1 ⟨rfl, hb⟩
  have hI := (ib_box w 133 [1, o, s, t]).below hb
  have HI := Lib.hid hI
  have HB := Lib.hid (((Below.refl w.heap.size w).alloc (Nat.le_refl _) _).trans (hb.mono (by simp)))
  have hs1 := hI.lt
  clear hb hI
  rw [HW.out]
  go_wp2_with fail
  refine (ly_numbers w.heap.size 1 [o, s, t] w1 HI.out).mono ?_
  rintro e w2 ⟨A, c, n, rfl, hn, hR, hb2⟩
  obtain rfl : n = 3 := hn
  obtain ⟨c0, c1, c2, c3, f0, f1, f2, f3⟩ := ib4 (HI.out.below hb2)
  have HB2 := Lib.hid (HB.out.trans (hb2.mono HB.out.size))
  obtain ⟨g, rfl, hg0, hg⟩ := hR (by decide)
  have p0 : w2.cell? ⟨g, 0, none⟩ = some (.pointer (some ⟨w.heap.size, 1, none⟩)) := pc_cell hg (j := 0) (by decide)
  have p1 : w2.cell? ⟨g, 1, none⟩ = some (.pointer (some ⟨w.heap.size, 2, none⟩)) := pc_cell hg (j := 1) (by decide)
  have p2 : w2.cell? ⟨g, 2, none⟩ = some (.pointer (some ⟨w.heap.size, 3, none⟩)) := pc_cell hg (j := 2) (by decide)
  have hne : ¬ g = w.heap.size := by omega
  have hne2 : ¬ w.heap.size = g := by omega
  clear hg hg0
  clear hb2 HI HB hs1
  go_wp2_with fail
  refine wp_loop_rounds 4 ?_
  rw [rounds_succ]
  go_wp2
  rw [rounds_succ]
  go_wp2
  rw [rounds_succ]
  go_wp2
  rw [rounds_succ]
  go_wp2
  go_ret
  exact ⟨rfl, (((HB2.out.setCell (p := ⟨w.heap.size, 1, none⟩) (Nat.le_refl _) _).setCell (p := ⟨w.heap.size, 2, none⟩) (Nat.le_refl _) _).setCell (p := ⟨w.heap.size, 3, none⟩) (Nat.le_refl _) _)⟩
set_option maxHeartbeats 2000000 in
theorem formed_pool (o s t : Int) (w : World) (r : Bool) (hr : (o == 0 && t == 0) = r) (hw : (nums ⟨3, o, s, t⟩).all winB = true) :
    Calls Try.prog 101 #[.agg #[.int .i64 3, .int .i64 o, .int .i64 s, .int .i64 t]] w fun e w' => e = .returned (.bool r) ∧ Below w.heap.size w w' := by
  have q := fun w => ly_eq 3 o 0 t 3 0 0 0 w r (by rw [← hr]; simp)
  have HW := Lib.hid hw
  clear hw hr
  go_enter Try.func101, Try.ntmps101
  go_wp2_with fail
  refine (ly_within ⟨3, o, s, t⟩ w.heap.size _ (ib_box w 133 [3, o, s, t])).mono ?_
  rintro e w1 ⟨rfl, hb⟩
  have hI := (ib_box w 133 [3, o, s, t]).below hb
  have HI := Lib.hid hI
  have HB := Lib.hid (((Below.refl w.heap.size w).alloc (Nat.le_refl _) _).trans (hb.mono (by simp)))
  have hs1 := hI.lt
  clear hb hI
  rw [HW.out]
  go_wp2_with fail
  refine (ly_numbers w.heap.size 3 [o, s, t] w1 HI.out).mono ?_
  rintro e w2 ⟨A, c, n, rfl, hn, hR, hb2⟩
  obtain rfl : n = 1 := hn
  obtain ⟨c0, c1, c2, c3, f0, f1, f2, f3⟩ := ib4 (HI.out.below hb2)
  have HB2 := Lib.hid (HB.out.trans (hb2.mono HB.out.size))
  obtain ⟨g, rfl, hg0, hg⟩ := hR (by decide)
  have p0 : w2.cell? ⟨g, 0, none⟩ = some (.pointer (some ⟨w.heap.size, 2, none⟩)) := pc_cell hg (j := 0) (by decide)
  have hne : ¬ g = w.heap.size := by omega
  have hne2 : ¬ w.heap.size = g := by omega
  clear hg hg0
  clear hb2 HI HB hs1
  go_wp2_with fail
  refine wp_loop_rounds 2 ?_
  rw [rounds_succ]
  go_wp2
  rw [rounds_succ]
  go_wp2
  go_ret
  exact ⟨rfl, (HB2.out.setCell (p := ⟨w.heap.size, 2, none⟩) (Nat.le_refl _) _)⟩
set_option maxHeartbeats 2000000 in
theorem formed_dense (o s t : Int) (w : World) (r : Bool) (hr : (s == 0 && t == 0) = r) (hw : (nums ⟨4, o, s, t⟩).all winB = true) :
    Calls Try.prog 101 #[.agg #[.int .i64 4, .int .i64 o, .int .i64 s, .int .i64 t]] w fun e w' => e = .returned (.bool r) ∧ Below w.heap.size w w' := by
  have q := fun w => ly_eq 4 0 s t 4 0 0 0 w r (by rw [← hr]; simp)
  have HW := Lib.hid hw
  clear hw hr
  go_enter Try.func101, Try.ntmps101
  go_wp2_with fail
  refine (ly_within ⟨4, o, s, t⟩ w.heap.size _ (ib_box w 133 [4, o, s, t])).mono ?_
  rintro e w1 ⟨rfl, hb⟩
  have hI := (ib_box w 133 [4, o, s, t]).below hb
  have HI := Lib.hid hI
  have HB := Lib.hid (((Below.refl w.heap.size w).alloc (Nat.le_refl _) _).trans (hb.mono (by simp)))
  have hs1 := hI.lt
  clear hb hI
  rw [HW.out]
  go_wp2_with fail
  refine (ly_numbers w.heap.size 4 [o, s, t] w1 HI.out).mono ?_
  rintro e w2 ⟨A, c, n, rfl, hn, hR, hb2⟩
  obtain rfl : n = 1 := hn
  obtain ⟨c0, c1, c2, c3, f0, f1, f2, f3⟩ := ib4 (HI.out.below hb2)
  have HB2 := Lib.hid (HB.out.trans (hb2.mono HB.out.size))
  obtain ⟨g, rfl, hg0, hg⟩ := hR (by decide)
  have p0 : w2.cell? ⟨g, 0, none⟩ = some (.pointer (some ⟨w.heap.size, 1, none⟩)) := pc_cell hg (j := 0) (by decide)
  have hne : ¬ g = w.heap.size := by omega
  have hne2 : ¬ w.heap.size = g := by omega
  clear hg hg0
  clear hb2 HI HB hs1
  go_wp2_with fail
  refine wp_loop_rounds 2 ?_
  rw [rounds_succ]
  go_wp2
  rw [rounds_succ]
  go_wp2
  go_ret
  exact ⟨rfl, (HB2.out.setCell (p := ⟨w.heap.size, 1, none⟩) (Nat.le_refl _) _)⟩
theorem formed_any (L : Ly) (w : World) :
    Calls Try.prog 101 #[.agg #[.int .i64 L.k, .int .i64 L.o, .int .i64 L.s, .int .i64 L.t]] w fun e w' => e = .returned (.bool (lyB L)) ∧ Below w.heap.size w w' := by
  obtain ⟨k, o, s, t⟩ := L
  show Calls Try.prog 101 #[.agg #[.int .i64 k, .int .i64 o, .int .i64 s, .int .i64 t]] w _
  by_cases hk : 1 ≤ k ∧ k ≤ 4
  · have hkb : kindB k = true := by unfold kindB; simpa using hk
    cases hw : (nums ⟨k, o, s, t⟩).all winB
    · have : lyB ⟨k, o, s, t⟩ = false := by unfold lyB; rw [hw]; simp
      rw [this]; exact formed_not k o s t w hk.1 hk.2 hw
    · have hl : lyB ⟨k, o, s, t⟩ = restB ⟨k, o, s, t⟩ := by unfold lyB; rw [hw]; simp [hkb]
      rw [hl]
      rcases kind_cases hkb with rfl | rfl | rfl | rfl
      · exact formed_conv o s t w _ rfl hw
      · exact formed_square o s t w _ (by simp [restB, Bool.and_assoc])
      · exact formed_pool o s t w _ rfl hw
      · exact formed_dense o s t w _ rfl hw
  · have : lyB ⟨k, o, s, t⟩ = false := by
      unfold lyB kindB
      by_cases h1 : 1 ≤ k
      · have : decide (k ≤ 4) = false := by simp; omega
        simp [this]
      · simp [h1]
    rw [this]; exact formed_out k o s t w (by omega)

end Go.Proofs.Ytnfmpladdfgadaa
