/-
  What the laws of this seat stand on, part 2.
-/
import Derived.Test.YtklgjhldebdegaaB01
import Derived.Deep.RegionHeld3
import Derived.Defers
import Derived.Recover
import Derived.OwnWalk
import Derived.Lib.BufferMore
import Derived.Laws.StructEq
namespace Go.Proofs.Ytklgjhldebdegaa
open Go.RowKit

theorem ly_eq (a b c d e f g h : Int) (w : World) (r : Bool) (hr : (a == e && (b == f && (c == g && d == h))) = r) :
    (binOp .eql 93 (.agg #[.int .i64 a, .int .i64 b, .int .i64 c, .int .i64 d]) (.agg #[.int .i64 e, .int .i64 f, .int .i64 g, .int .i64 h])).run Try.prog w = .ok (.bool r) w := by
  rw [← hr]
  cases h1 : a == e <;> cases h2 : b == f <;> cases h3 : c == g <;> cases h4 : d == h <;> go_simp <;> simp_all
theorem enter68 : ∀ args w, Sem.run Try.prog (callFunc 68 args) w = .ok (.enter 68 args) w := fun args w => by go_simp
theorem enter51 : ∀ args w, Sem.run Try.prog (callFunc 51 args) w = .ok (.enter 51 args) w := fun args w => by go_simp
theorem ib_box (w : World) (T : Nat) (l : List Int) : IB (w.alloc (.cells (ic l) T)) w.heap.size T l := by
  show (w.heap.push _)[w.heap.size]? = _
  simp
theorem offs_lt {k : Int} : ∀ o ∈ offs k, o < 4 := by
  unfold offs
  split
  · decide
  · split
    · decide
    · split <;> decide
theorem offs_len (k : Int) : (offs k).length ≤ 3 := by
  unfold offs
  split
  · decide
  · split
    · decide
    · split <;> decide
theorem vals_nums (l : Ly) : valsAt [l.k, l.o, l.s, l.t] (offs l.k) = nums l := by
  unfold valsAt offs nums
  split
  · rfl
  · split
    · rfl
    · split <;> rfl
theorem ly_numbers (b : Nat) (k : Int) (r : List Int) : ∀ w, IB w b 93 (k :: r) → Calls Try.prog 68 #[.pointer (some ⟨b, 0, none⟩)] w (NumsPost b (offs k) w) :=
  fun w h => lay_numbers k b w (h.cell (j := 0) (by simp))
theorem pic_nums (b : Nat) (l : List Int) : ∀ w, IB w b 89 l → Calls Try.prog 51 #[.pointer (some ⟨b, 0, none⟩)] w (NumsPost b [0, 1, 2] w) :=
  fun w _ => pic_numbers b w
theorem ly_within (L : Ly) (b : Nat) (w : World) (h : IB w b 93 [L.k, L.o, L.s, L.t]) :
    Calls Try.prog 50 #[.func (.func 68) #[.pointer (some ⟨b, 0, none⟩)] #[]] w fun e w' => e = .returned (.bool ((nums L).all winB)) ∧ Below w.heap.size w w' := by
  have := numbers_within 68 b 93 [L.k, L.o, L.s, L.t] (offs L.k) w h offs_lt (by have := offs_len L.k; omega) enter68 (ly_numbers b _ _)
  rwa [vals_nums] at this
set_option maxHeartbeats 1000000 in
theorem formed_out (k o s t : Int) (w : World) (h : k ≤ 0 ∨ 5 ≤ k) :
    Calls Try.prog 52 #[.agg #[.int .i64 k, .int .i64 o, .int .i64 s, .int .i64 t]] w fun e w' => e = .returned (.bool false) ∧ Below w.heap.size w w' := by
  rcases h with h | h
  · have d1 : decide (k ≤ 0) = true := by simpa using h
    go_enter Try.func52, Try.ntmps52
    go_wp2_with fail
    go_ret
    exact ⟨rfl, (Below.refl _ w).alloc (Nat.le_refl _) _⟩
  · have d1 : decide (k ≤ 0) = false := by simp; omega
    have d2 : decide (5 ≤ k) = true := by simpa using h
    go_enter Try.func52, Try.ntmps52
    go_wp2_with fail
    go_ret
    exact ⟨rfl, (Below.refl _ w).alloc (Nat.le_refl _) _⟩
set_option maxHeartbeats 1000000 in
theorem formed_not (k o s t : Int) (w : World) (h1 : 1 ≤ k) (h4 : k ≤ 4) (hw : (nums ⟨k, o, s, t⟩).all winB = false) :
    Calls Try.prog 52 #[.agg #[.int .i64 k, .int .i64 o, .int .i64 s, .int .i64 t]] w fun e w' => e = .returned (.bool false) ∧ Below w.heap.size w w' := by
  have d1 : decide (k ≤ 0) = false := by simp; omega
  have d2 : decide (5 ≤ k) = false := by simp; omega
  have HW := Lib.hid hw
  clear hw
  go_enter Try.func52, Try.ntmps52
  go_wp2_with fail
  refine (ly_within ⟨k, o, s, t⟩ w.heap.size _ (ib_box w 93 [k, o, s, t])).mono ?_
  rintro e w1 ⟨rfl, hb⟩
  rw [HW.out]
  have HB := Lib.hid (((Below.refl w.heap.size w).alloc (Nat.le_refl _) _).trans (hb.mono (by simp)))
  clear hb
  go_wp2_with fail
  go_ret
  exact ⟨rfl, HB.out⟩
theorem ib4 {w : World} {b T : Nat} {k o s t : Int} (h : IB w b T [k, o, s, t]) :
    w.cell? ⟨b, 0, none⟩ = some (.int .i64 k) ∧ w.cell? ⟨b, 1, none⟩ = some (.int .i64 o) ∧ w.cell? ⟨b, 2, none⟩ = some (.int .i64 s) ∧ w.cell? ⟨b, 3, none⟩ = some (.int .i64 t) ∧
    w.frozen? ⟨b, 0, none⟩ = false ∧ w.frozen? ⟨b, 1, none⟩ = false ∧ w.frozen? ⟨b, 2, none⟩ = false ∧ w.frozen? ⟨b, 3, none⟩ = false :=
  ⟨h.cell (j := 0) (by simp), h.cell (j := 1) (by simp), h.cell (j := 2) (by simp), h.cell (j := 3) (by simp), Lib.frozen_of_heap h 0, Lib.frozen_of_heap h 1, Lib.frozen_of_heap h 2, Lib.frozen_of_heap h 3⟩
set_option maxHeartbeats 2000000 in
theorem formed_square (o s t : Int) (w : World) (r : Bool) (hr : (o == 0 && (s == 0 && t == 0)) = r) :
    Calls Try.prog 52 #[.agg #[.int .i64 2, .int .i64 o, .int .i64 s, .int .i64 t]] w fun e w' => e = .returned (.bool r) ∧ Below w.heap.size w w' := by
  have q := fun w => ly_eq 2 o s t 2 0 0 0 w r (by rw [← hr]; rfl)
  clear hr
  go_enter Try.func52, Try.ntmps52
  go_wp2_with fail
  refine (ly_within ⟨2, o, s, t⟩ w.heap.size _ (ib_box w 93 [2, o, s, t])).mono ?_
  rintro e w1 ⟨rfl, hb⟩
  have hI := (ib_box w 93 [2, o, s, t]).below hb
  have HI := Lib.hid hI
  have HB := Lib.hid (((Below.refl w.heap.size w).alloc (Nat.le_refl _) _).trans (hb.mono (by simp)))
  have hs1 := hI.lt
  clear hb hI
  rw [show (nums ⟨2, o, s, t⟩).all winB = true from rfl]
  go_wp2_with fail
  refine (ly_numbers w.heap.size 2 [o, s, t] w1 HI.out).mono ?_
  rintro e w2 ⟨A, c, n, rfl, hn, hR, hb2⟩
  obtain rfl : n = 0 := hn
  obtain ⟨c0, c1, c2, c3, f0, f1, f2, f3⟩ := ib4 (HI.out.below hb2)
  have HB2 := Lib.hid (HB.out.trans (hb2.mono HB.out.size))
  clear hR
  clear hb2 HI HB hs1
  go_wp2_with fail
  refine wp_loop_rounds 1 ?_
  rw [rounds_succ]
  go_wp2
  go_ret
  exact ⟨rfl, HB2.out⟩
set_option maxHeartbeats 2000000 in
theorem formed_conv (o s t : Int) (w : World) (r : Bool) (hr : true = r) (hw : (nums ⟨1, o, s, t⟩).all winB = true) :
    Calls Try.prog 52 #[.agg #[.int .i64 1, .int .i64 o, .int .i64 s, .int .i64 t]] w fun e w' => e = .returned (.bool r) ∧ Below w.heap.size w w' := by
  have q := fun w => ly_eq 1 0 0 0 1 0 0 0 w r (by rw [← hr]; rfl)
  have HW := Lib.hid hw
  clear hw hr
  go_enter Try.func52, Try.ntmps52
  go_wp2_with fail
  refine (ly_within ⟨1, o, s, t⟩ w.heap.size _ (ib_box w 93 [1, o, s, t])).mono ?_
  rintro e w1 ⟨rfl, hb⟩
  have hI := (ib_box w 93 [1, o, s, t]).below hb
  have HI := Lib.hid hI
  have HB := Lib.hid (((Below.refl w.heap.size w).alloc (Nat.le_refl _) _).trans (hb.mono (by simp)))
  have hs1 := hI.lt
  clear hb hI
  rw [HW.out]
  go_wp2_with fail
  refine (ly_numbers w.heap.size 1 [o, s, t] w1 HI.out).mono ?_
  rintro e w2 ⟨A, c, n, rfl, hn, hR, hb2⟩
  obtain rfl : n = 3 := hn
  obtain ⟨c0, c1, c2, c3, f0, f1, f2, f3⟩ := ib4 (HI.out.below hb2)
  have HB2 := Lib.hid (HB.out.trans (hb2.mono HB.out.size))
  obtain ⟨g, rfl, hg0, hg⟩ := hR (by decide)
  have p0 : w2.cell? ⟨g, 0, none⟩ = some (.pointer (some ⟨w.heap.size, 1, none⟩)) := pc_cell hg (j := 0) (by decide)
  have p1 : w2.cell? ⟨g, 1, none⟩ = some (.pointer (some ⟨w.heap.size, 2, none⟩)) := pc_cell hg (j := 1) (by decide)
  have p2 : w2.cell? ⟨g, 2, none⟩ = some (.pointer (some ⟨w.heap.size, 3, none⟩)) := pc_cell hg (j := 2) (by decide)
  have hne : ¬ g = w.heap.size := by omega
  have hne2 : ¬ w.heap.size = g := by omega
  clear hg hg0
  clear hb2 HI HB hs1
  go_wp2_with fail
  refine wp_loop_rounds 4 ?_
  rw [rounds_succ]
  go_wp2
  rw [rounds_succ]
  go_wp2
  rw [rounds_succ]
  go_wp2
  rw [rounds_succ]
  go_wp2
  go_ret
  exact ⟨rfl, (((HB2.out.setCell (p := ⟨w.heap.size, 1, none⟩) (Nat.le_refl _) _).setCell (p := ⟨w.heap.size, 2, none⟩) (Nat.le_refl _) _).setCell (p := ⟨w.heap.size, 3, none⟩) (Nat.le_refl _) _)⟩
set_option maxHeartbeats 2000000 in
theorem formed_pool (o s t : Int) (w : World) (r : Bool) (hr : (o == 0 && t == 0) = r) (hw : (nums ⟨3, o, s, t⟩).all winB = true) :
    Calls Try.prog 52 #[.agg #[.int .i64 3, .int .i64 o, .int .i64 s, .int .i64 t]] w fun e w' => e = .returned (.bool r) ∧ Below w.heap.size w w' := by
  have q := fun w => ly_eq 3 o 0 t 3 0 0 0 w r (by rw [← hr]; simp)
  have HW := Lib.hid hw
  clear hw hr
  go_enter Try.func52, Try.ntmps52
  go_wp2_with fail
  refine (ly_within ⟨3, o, s, t⟩ w.heap.size _ (ib_box w 93 [3, o, s, t])).mono ?_
  rintro e w1 ⟨rfl, hb⟩
  have hI := (ib_box w 93 [3, o, s, t]).below hb
  have HI := Lib.hid hI
  have HB := Lib.hid (((Below.refl w.heap.size w).alloc (Nat.le_refl _) _).trans (hb.mono (by simp)))
  have hs1 := hI.lt
  clear hb hI
  rw [HW.out]
  go_wp2_with fail
  refine (ly_numbers w.heap.size 3 [o, s, t] w1 HI.out).mono ?_
  rintro e w2 ⟨A, c, n, rfl, hn, hR, hb2⟩
  obtain rfl : n = 1 := hn
  obtain ⟨c0, c1, c2, c3, f0, f1, f2, f3⟩ := ib4 (HI.out.below hb2)
  have HB2 := Lib.hid (HB.out.trans (hb2.mono HB.out.size))
  obtain ⟨g, rfl, hg0, hg⟩ := hR (by decide)
  have p0 : w2.cell? ⟨g, 0, none⟩ = some (.pointer (some ⟨w.heap.size, 2, none⟩)) := pc_cell hg (j := 0) (by decide)
  have hne : ¬ g = w.heap.size := by omega
  have hne2 : ¬ w.heap.size = g := by omega
  clear hg hg0
  clear hb2 HI HB hs1
  go_wp2_with fail
  refine wp_loop_rounds 2 ?_
  rw [rounds_succ]
  go_wp2
  rw [rounds_succ]
  go_wp2
  go_ret
  exact ⟨rfl, (HB2.out.setCell (p := ⟨w.heap.size, 2, none⟩) (Nat.le_refl _) _)⟩
set_option maxHeartbeats 2000000 in
theorem formed_dense (o s t : Int) (w : World) (r : Bool) (hr : (s == 0 && t == 0) = r) (hw : (nums ⟨4, o, s, t⟩).all winB = true) :
    Calls Try.prog 52 #[.agg #[.int .i64 4, .int .i64 o, .int .i64 s, .int .i64 t]] w fun e w' => e = .returned (.bool r) ∧ Below w.heap.size w w' := by
  have q := fun w => ly_eq 4 0 s t 4 0 0 0 w r (by rw [← hr]; simp)
  have HW := Lib.hid hw
  clear hw hr
  go_enter Try.func52, Try.ntmps52
  go_wp2_with fail
  refine (ly_within ⟨4, o, s, t⟩ w.heap.size _ (ib_box w 93 [4, o, s, t])).mono ?_
  rintro e w1 ⟨rfl, hb⟩
  have hI := (ib_box w 93 [4, o, s, t]).below hb
  have HI := Lib.hid hI
  have HB := Lib.hid (((Below.refl w.heap.size w).alloc (Nat.le_refl _) _).trans (hb.mono (by simp)))
  have hs1 := hI.lt
  clear hb hI
  rw [HW.out]
  go_wp2_with fail
  refine (ly_numbers w.heap.size 4 [o, s, t] w1 HI.out).mono ?_
  rintro e w2 ⟨A, c, n, rfl, hn, hR, hb2⟩
  obtain rfl : n = 1 := hn
  obtain ⟨c0, c1, c2, c3, f0, f1, f2, f3⟩ := ib4 (HI.out.below hb2)
  have HB2 := Lib.hid (HB.out.trans (hb2.mono HB.out.size))
  obtain ⟨g, rfl, hg0, hg⟩ := hR (by decide)
  have p0 : w2.cell? ⟨g, 0, none⟩ = some (.pointer (some ⟨w.heap.size, 1, none⟩)) := pc_cell hg (j := 0) (by decide)
  have hne : ¬ g = w.heap.size := by omega
  have hne2 : ¬ w.heap.size = g := by omega
  clear hg hg0
  clear hb2 HI HB hs1
  go_wp2_with fail
  refine wp_loop_rounds 2 ?_
  rw [rounds_succ]
  go_wp2
  rw [rounds_succ]
  go_wp2
  go_ret
  exact ⟨rfl, (HB2.out.setCell (p := ⟨w.heap.size, 1, none⟩) (Nat.le_refl _) _)⟩
theorem formed_any (L : Ly) (w : World) :
    Calls Try.prog 52 #[.agg #[.int .i64 L.k, .int .i64 L.o, .int .i64 L.s, .int .i64 L.t]] w fun e w' => e = .returned (.bool (lyB L)) ∧ Below w.heap.size w w' := by
  obtain ⟨k, o, s, t⟩ := L
  show Calls Try.prog 52 #[.agg #[.int .i64 k, .int .i64 o, .int .i64 s, .int .i64 t]] w _
  by_cases hk : 1 ≤ k ∧ k ≤ 4
  · have hkb : kindB k = true := by unfold kindB; simpa using hk
    cases hw : (nums ⟨k, o, s, t⟩).all winB
    · have : lyB ⟨k, o, s, t⟩ = false := by unfold lyB; rw [hw]; simp
      rw [this]; exact formed_not k o s t w hk.1 hk.2 hw
    · have hl : lyB ⟨k, o, s, t⟩ = restB ⟨k, o, s, t⟩ := by unfold lyB; rw [hw]; simp [hkb]
      rw [hl]
      rcases kind_cases hkb with rfl | rfl | rfl | rfl
      · exact formed_conv o s t w _ rfl hw
      · exact formed_square o s t w _ (by simp [restB, Bool.and_assoc])
      · exact formed_pool o s t w _ rfl hw
      · exact formed_dense o s t w _ rfl hw
  · have : lyB ⟨k, o, s, t⟩ = false := by
      unfold lyB kindB
      by_cases h1 : 1 ≤ k
      · have : decide (k ≤ 4) = false := by simp; omega
        simp [this]
      · simp [h1]
    rw [this]; exact formed_out k o s t w (by omega)

end Go.Proofs.Ytklgjhldebdegaa

namespace Go.Proofs.Ytklgjhldebdegaa
open Go.RowKit

def Ly.z : Ly := ⟨0, 0, 0, 0⟩
/-- A layer in memory. -/
def LyAt (w : World) (b o : Nat) (l : Ly) : Prop :=
  w.cell? ⟨b, o, none⟩ = some (.int .i64 l.k) ∧ w.cell? ⟨b, o + 1, none⟩ = some (.int .i64 l.o) ∧ w.cell? ⟨b, o + 2, none⟩ = some (.int .i64 l.s) ∧ w.cell? ⟨b, o + 3, none⟩ = some (.int .i64 l.t)
theorem LyAt.below {w w' : World} {b o : Nat} {l : Ly} {B : Nat} (h : LyAt w b o l) (hb : Below B w w') (hB : b < B) : LyAt w' b o l :=
  ⟨(hb.cell (p := ⟨b, o, none⟩) hB).trans h.1, (hb.cell (p := ⟨b, o + 1, none⟩) hB).trans h.2.1, (hb.cell (p := ⟨b, o + 2, none⟩) hB).trans h.2.2.1, (hb.cell (p := ⟨b, o + 3, none⟩) hB).trans h.2.2.2⟩
/-- A slice's address, behind which the layers lie. -/
def Rl (w : World) (A : Option Addr) (ls : List Ly) : Prop :=
  0 < ls.length → ∃ b off, A = some ⟨b, off, none⟩ ∧ b < w.heap.size ∧ ∀ j, j < ls.length → LyAt w b (off + j * 4) (ls.getD j Ly.z)
theorem Rl.nil (w : World) (A : Option Addr) : Rl w A [] := fun h => absurd h (by simp)
theorem Rl.below {w w' : World} {A : Option Addr} {ls : List Ly} (h : Rl w A ls) (hb : Below w.heap.size w w') : Rl w' A ls := fun h0 => by
  obtain ⟨b, off, e, hlt, hc⟩ := h h0
  exact ⟨b, off, e, Nat.lt_of_lt_of_le hlt hb.size, fun j hj => (hc j hj).below hb hlt⟩
theorem get_ly {ls : List Ly} {k : Nat} (h : k < ls.length) : ls[k]? = some (ls.getD k Ly.z) := by
  rw [List.getElem?_eq_getElem h]; simp [List.getD_eq_getElem?_getD, h]
/-- A network's own cells. -/
def NB (w : World) (b : Nat) (c h x : Int) (v : Value) : Prop := w.heap[b]? = some (.cells #[.int .i64 c, .int .i64 h, .int .i64 x, v] 26 (0, 0))
theorem NB.lt {w : World} {b : Nat} {c h x : Int} {v : Value} (H : NB w b c h x v) : b < w.heap.size := (Array.getElem?_eq_some_iff.1 H).1
theorem NB.below {w w' : World} {b : Nat} {c h x : Int} {v : Value} (H : NB w b c h x v) (hb : Below w.heap.size w w') : NB w' b c h x v := (hb.block b H.lt).trans H
theorem NB.new (w : World) (c h x : Int) (v : Value) : NB (w.alloc (.cells #[.int .i64 c, .int .i64 h, .int .i64 x, v] 26)) w.heap.size c h x v := by
  show (w.heap.push _)[w.heap.size]? = _
  simp
theorem NB.alloc {w : World} {b : Nat} {c h x : Int} {v : Value} (H : NB w b c h x v) (o : Obj) : NB (w.alloc o) b c h x v := (Lib.alloc_old w o b H.lt).trans H
theorem NB.drew {w : World} {b : Nat} {c h x : Int} {v : Value} (H : NB w b c h x v) : NB w.drew b c h x v := H
theorem NB.cells {w : World} {b : Nat} {c h x : Int} {v : Value} (H : NB w b c h x v) :
    w.cell? ⟨b, 0, none⟩ = some (.int .i64 c) ∧ w.cell? ⟨b, 1, none⟩ = some (.int .i64 h) ∧ w.cell? ⟨b, 2, none⟩ = some (.int .i64 x) ∧ w.cell? ⟨b, 3, none⟩ = some v :=
  ⟨by rw [Lib.cell_of_heap H]; rfl, by rw [Lib.cell_of_heap H]; rfl, by rw [Lib.cell_of_heap H]; rfl, by rw [Lib.cell_of_heap H]; rfl⟩
theorem ib_box3 (w : World) (o : Obj) (T : Nat) (c h x : Int) : IB ((w.alloc o).alloc (.cells #[.int .i64 c, .int .i64 h, .int .i64 x] T)) (w.heap.size + 1) T [c, h, x] := by
  have := ib_box (w.alloc o) T [c, h, x]
  rwa [show (w.alloc o).heap.size = w.heap.size + 1 by simp] at this
theorem form_no1 {c h x : Int} {ls : List Ly} (H : [c, h, x].all winB = false) : formB ⟨c, h, x, ls⟩ = false := by
  unfold formB; rw [show [(⟨c, h, x, ls⟩ : Nt).c, (⟨c, h, x, ls⟩ : Nt).h, (⟨c, h, x, ls⟩ : Nt).x].all winB = false from H]; rfl
theorem form_no2 {c h x : Int} {ls : List Ly} (H : 8 < ls.length) : formB ⟨c, h, x, ls⟩ = false := by
  unfold formB
  have : decide (ls.length ≤ 8) = false := by simp; omega
  rw [show decide ((⟨c, h, x, ls⟩ : Nt).ls.length ≤ 8) = false from this, Bool.and_false]; rfl
theorem form_no3 {c h x : Int} {ls : List Ly} (H : ls.all lyB = false) : formB ⟨c, h, x, ls⟩ = false := by
  unfold formB; rw [show (⟨c, h, x, ls⟩ : Nt).ls.all lyB = false from H, Bool.and_false]
set_option maxHeartbeats 2000000 in
theorem form_any (c h x : Int) (A : Option Addr) (cA n : Nat) (ls : List Ly) (w : World) (hx : Rl w A ls) (ln : n = ls.length) (hn : n ≤ 1000) :
    Calls Try.prog 35 #[.agg #[.int .i64 c, .int .i64 h, .int .i64 x, .slice A n cA]] w fun e w' => e = .returned (.bool (formB ⟨c, h, x, ls⟩)) ∧ Below w.heap.size w w' := by
  have HX := Lib.hid hx; have LX := Lib.hid ln; clear hx ln
  go_enter Try.func35, Try.ntmps35
  go_wp2_with fail
  refine (numbers_within 51 (w.heap.size + 1) 89 [c, h, x] [0, 1, 2] _ (ib_box3 w _ 89 c h x) (by simp) (by decide) enter51 (pic_nums _ _)).mono ?_
  rintro e w1 ⟨rfl, hb⟩
  rw [show valsAt [c, h, x] [0, 1, 2] = [c, h, x] from rfl]
  have HB := Lib.hid ((((Below.refl w.heap.size w).alloc (Nat.le_refl _) _).alloc (by simp) _).trans (hb.mono (by simp; omega)))
  have hNB := ((NB.new w c h x (.slice A n cA)).alloc _).below hb
  obtain ⟨c0, c1, c2, c3⟩ := hNB.cells
  clear hb hNB
  cases hw : [c, h, x].all winB
  · have HW := Lib.hid (form_no1 (ls := ls) hw)
    clear hw
    go_wp2_with fail
    go_ret
    exact ⟨ret_bool HW.out.symm, HB.out⟩
  · have HV := Lib.hid hw
    clear hw
    by_cases h8 : 8 < n
    · have HW := Lib.hid (form_no2 (c := c) (h := h) (x := x) (ls := ls) (by rw [← LX.out]; exact h8))
      have d8 : decide (8 < n) = true := by simpa using h8
      have e8 : decide ((8 : Int) < (n : Int)) = true := by simp; omega
      go_wp2_with fail
      go_ret
      exact ⟨ret_bool HW.out.symm, HB.out⟩
    · have d8 : decide (8 < n) = false := by simpa using h8
      have e8 : decide ((8 : Int) < (n : Int)) = false := by simp; omega
      go_wp2_with fail
      clear c0 c1 c2 c3
      go_loopw [20] (fun i wr => ∃ k : Nat, k ≤ n ∧ i = .int .i64 k ∧ Hid ((ls.take k).all lyB = true) ∧ Hid (Below w.heap.size w wr)) (fun i _ => n - (intOf i).toNat)
      case atStart => exact ⟨0, Nat.zero_le _, rfl, rfl, HB.out⟩
      case round =>
        obtain ⟨k, hk, rfl, HA, HC⟩ := hrel
        by_cases hlt : k < n
        · have hkl : k < ls.length := by rw [← LX.out]; exact hlt
          obtain ⟨b1, o1, rfl, l1, q⟩ := HX.out (by omega)
          obtain ⟨l, hle⟩ : ∃ l, l = ls.getD k Ly.z := ⟨_, rfl⟩
          have hq := (q k hkl).below HC.out l1
          rw [← hle] at hq
          have HL : Hid (ls[k]? = some l) := by show _ = _; rw [hle]; exact get_ly hkl
          obtain ⟨p0, p1, p2, p3⟩ := hq
          clear q hle
          go_wp2_with fail
          refine (formed_any l _).mono ?_
          rintro e w2 ⟨rfl, hb2⟩
          have HB2 := Lib.hid ((HC.out.alloc HC.out.size _).trans (hb2.mono (by simp; have := HC.out.size; omega)))
          clear hb2 p0 p1 p2 p3
          cases hl : lyB l
          · have HW := Lib.hid (form_no3 (c := c) (h := h) (x := x) (all_no HL.out hl))
            clear hl
            go_wp2_with fail
            go_ret
            exact ⟨ret_bool HW.out.symm, HB2.out⟩
          · have HT : Hid ((ls.take (k + 1)).all lyB = true) := by
              show _ = true
              rw [take_get HL.out, List.all_append, HA.out]; simp [hl]
            clear hl
            go_wp2_with fail
            go_roundw
            case rel => exact ⟨k + 1, by omega, by go_num, HT, HB2⟩
            case measure => simp [intOf]; omega
        · obtain rfl : k = n := by omega
          have hall := HA.out
          rw [LX.out, List.take_length] at hall
          have HW := Lib.hid (form_mk (n := ⟨c, h, x, ls⟩) HV.out (by show ls.length ≤ 8; rw [← LX.out]; omega) hall)
          clear hall
          go_wp2_with fail
          go_ret
          exact ⟨ret_bool HW.out.symm, HC.out⟩

end Go.Proofs.Ytklgjhldebdegaa

namespace Go.Proofs.Ytklgjhldebdegaa
open Go.RowKit

def kcells (k : Kn) : List Value := [.int .i64 k.l.k, .int .i64 k.l.o, .int .i64 k.l.s, .int .i64 k.l.t, .int .i64 k.i.c, .int .i64 k.i.h, .int .i64 k.i.x, .int .i64 k.u.c, .int .i64 k.u.h, .int .i64 k.u.x, .int .i64 k.a]
def kv (k : Kn) : Value := .agg #[.int .i64 k.l.k, .int .i64 k.l.o, .int .i64 k.l.s, .int .i64 k.l.t, .int .i64 k.i.c, .int .i64 k.i.h, .int .i64 k.i.x, .int .i64 k.u.c, .int .i64 k.u.h, .int .i64 k.u.x, .int .i64 k.a]

theorem size_is (c h x n : Int) (e : sizeI c h x = n) (w : World) :
    Calls Try.prog 58 #[.agg #[.int .i64 c, .int .i64 h, .int .i64 x]] w fun e w' => e = .returned (.int .i64 n) ∧ Below w.heap.size w w' := by
  have := size_any c h x w
  rwa [e] at this

set_option maxHeartbeats 1000000 in
theorem weights_conv (o s t c h x a b d u : Int) (w : World) (o0 : 0 ≤ o) (o1 : o ≤ 8) (c0 : 0 ≤ c) (c1 : c ≤ 8) (s0 : 0 ≤ s) (s1 : s ≤ 12) :
    Calls Try.prog 38 #[.agg #[.int .i64 1, .int .i64 o, .int .i64 s, .int .i64 t, .int .i64 c, .int .i64 h, .int .i64 x, .int .i64 a, .int .i64 b, .int .i64 d, .int .i64 u]] w fun e w' => e = .returned (.int .i64 (o * c * s * s)) ∧ Below w.heap.size w w' := by
  obtain ⟨b1, b2, b3, b4, b5, b6⟩ := conv_small o0 o1 c0 c1 s0 s1
  go_enter Try.func38, Try.ntmps38
  go_wp2
  go_ret
  exact ⟨rfl, (Below.refl _ w).alloc (Nat.le_refl _) _⟩

set_option maxHeartbeats 1000000 in
theorem weights_dense (o s t c h x a b d u : Int) (w : World) (o0 : 0 ≤ o) (o1 : o ≤ 8) :
    Calls Try.prog 38 #[.agg #[.int .i64 4, .int .i64 o, .int .i64 s, .int .i64 t, .int .i64 c, .int .i64 h, .int .i64 x, .int .i64 a, .int .i64 b, .int .i64 d, .int .i64 u]] w fun e w' => e = .returned (.int .i64 (o * sizeI c h x)) ∧ Below w.heap.size w w' := by
  obtain ⟨n, hn⟩ : ∃ n, n = sizeI c h x := ⟨_, rfl⟩
  have hb : 0 ≤ n ∧ n ≤ 128 := by rw [hn]; exact sizeI_bd c h x
  obtain ⟨n0, n1⟩ := hb
  have HN := Lib.hid hn
  clear hn
  rw [← HN.out]
  obtain ⟨m0, m1⟩ := mul_bd o0 o1 n0 n1
  have m2 : o * n ≤ 1024 := by omega
  have V : Hid (IntKind.i64.wrap (o * n) = o * n) := IntWalk.i64_in _ (by omega)
  clear m1
  obtain ⟨W, hW⟩ : ∃ W, W = w.alloc (.cells #[.int .i64 4, .int .i64 o, .int .i64 s, .int .i64 t, .int .i64 c, .int .i64 h, .int .i64 x, .int .i64 a, .int .i64 b, .int .i64 d, .int .i64 u] 70) := ⟨_, rfl⟩
  have HBW : Hid (Below w.heap.size w W) := by rw [hW]; exact (Below.refl _ w).alloc (Nat.le_refl _) _
  have a1 : W.cell? ⟨w.heap.size, 1, none⟩ = some (.int .i64 o) := by rw [hW]; go_simp
  have a4 : W.cell? ⟨w.heap.size, 4, none⟩ = some (.int .i64 c) := by rw [hW]; go_simp
  have a5 : W.cell? ⟨w.heap.size, 5, none⟩ = some (.int .i64 h) := by rw [hW]; go_simp
  have a6 : W.cell? ⟨w.heap.size, 6, none⟩ = some (.int .i64 x) := by rw [hW]; go_simp
  have hWl : w.heap.size < W.heap.size := by rw [hW]; simp
  go_enter Try.func38, Try.ntmps38
  go_wp2_with fail
  rw [← hW]
  clear hW
  have HC0 : Hid (Below W.heap.size W W.drew) := below_drew W
  have tok1 : True := trivial
  go_region_held3 (fun w' => w'.cell? ⟨w.heap.size, 1, none⟩ = some (.int .i64 o) ∧ w'.cell? ⟨w.heap.size, 4, none⟩ = some (.int .i64 c) ∧ w'.cell? ⟨w.heap.size, 5, none⟩ = some (.int .i64 h) ∧ w'.cell? ⟨w.heap.size, 6, none⟩ = some (.int .i64 x))
    (first | exact ⟨q1, q4, q5, q6⟩ | go_keep)
    (first
      | ((have _t := tok1; clear tok1; go_at_call 58; (with_reducible refine (size_is c h x n HN.out.symm _).mono ?_); rintro e w1 ⟨rfl, hb1⟩
          have HC1 := Lib.hid (HC0.out.trans (hb1.mono HC0.out.size))
          have q1 := (HC1.out.cell (p := ⟨w.heap.size, 1, none⟩) hWl).trans a1
          have q4 := (HC1.out.cell (p := ⟨w.heap.size, 4, none⟩) hWl).trans a4
          have q5 := (HC1.out.cell (p := ⟨w.heap.size, 5, none⟩) hWl).trans a5
          have q6 := (HC1.out.cell (p := ⟨w.heap.size, 6, none⟩) hWl).trans a6
          clear hb1))
      | fail)
  go_wp2_with fail
  go_ret
  exact ⟨ret_int V.out, HBW.out.trans (HC1.out.mono HBW.out.size)⟩

set_option maxHeartbeats 1000000 in
theorem weights_none (k o s t c h x a b d u : Int) (w : World) (k1 : (k == 1) = false) (k4 : (k == 4) = false) :
    Calls Try.prog 38 #[.agg #[.int .i64 k, .int .i64 o, .int .i64 s, .int .i64 t, .int .i64 c, .int .i64 h, .int .i64 x, .int .i64 a, .int .i64 b, .int .i64 d, .int .i64 u]] w fun e w' => e = .returned (.int .i64 0) ∧ Below w.heap.size w w' := by
  go_enter Try.func38, Try.ntmps38
  go_wp2
  go_ret
  exact ⟨rfl, (Below.refl _ w).alloc (Nat.le_refl _) _⟩

theorem weights_any (k : Kn) (w : World) (hk : KnOk k) : Calls Try.prog 38 #[kv k] w fun e w' => e = .returned (.int .i64 k.w) ∧ Below w.heap.size w w' := by
  obtain ⟨⟨k, o, s, t⟩, ⟨c, h, x⟩, ⟨a, b, d⟩, u⟩ := k
  unfold kv Kn.w
  by_cases k1 : k = 1
  · subst k1
    obtain ⟨a1, a2, a3, a4, a5, a6, _⟩ := hk.1 rfl
    rw [w_conv _ rfl]
    exact weights_conv o s t c h x a b d u w a1 a2 a3 a4 a5 a6
  · by_cases k4 : k = 4
    · subst k4
      obtain ⟨a1, a2⟩ := hk.2 rfl
      rw [w_dense _ rfl]
      exact weights_dense o s t c h x a b d u w a1 a2
    · rw [w_none (l := ⟨k, o, s, t⟩) _ k1 k4]
      exact weights_none k o s t c h x a b d u w (ne_beq k1) (ne_beq k4)

theorem weights_is (k : Kn) (n : Int) (e : k.w = n) (w : World) (hk : KnOk k) : Calls Try.prog 38 #[kv k] w fun e w' => e = .returned (.int .i64 n) ∧ Below w.heap.size w w' := by
  have := weights_any k w hk
  rwa [e] at this

set_option maxHeartbeats 1000000 in
theorem products_conv (K : Kn) (o s t c h x a b d u : Int) (n : Int) (w : World) (hK : K = ⟨⟨1, o, s, t⟩, ⟨c, h, x⟩, ⟨a, b, d⟩, u⟩) (hn : K.w = n) (ok : KnOk K) :
    Calls Try.prog 39 #[.agg #[.int .i64 1, .int .i64 o, .int .i64 s, .int .i64 t, .int .i64 c, .int .i64 h, .int .i64 x, .int .i64 a, .int .i64 b, .int .i64 d, .int .i64 u]] w fun e w' => e = .returned (.int .i64 (n * b * d)) ∧ Below w.heap.size w w' := by
  have hw := ok.w
  rw [hn] at hw
  obtain ⟨n0, n1⟩ := hw
  have ok' := ok
  rw [hK] at ok'
  obtain ⟨_, _, _, _, _, _, z1, z2, z3, z4⟩ := ok'.1 rfl
  have z1 : 0 ≤ b := z1
  have z2 : b ≤ 12 := z2
  have z3 : 0 ≤ d := z3
  have z4 : d ≤ 12 := z4
  obtain ⟨b1, b2⟩ := mul_bd n0 n1 z1 z2
  obtain ⟨b3, b4⟩ := mul_bd b1 b2 z3 z4
  have b2 : n * b ≤ 110592 := by omega
  have b4 : n * b * d ≤ 1327104 := by omega
  have V : Hid (IntKind.i64.wrap (IntKind.i64.wrap (n * b) * d) = n * b * d) := by
    show _ = _
    rw [IntWalk.i64_in (n * b) (by omega), IntWalk.i64_in _ (by omega)]
  have HN := Lib.hid hn; have HO := Lib.hid ok
  have HCall : Hid (∀ w, Calls Try.prog 38 #[.agg #[.int .i64 1, .int .i64 o, .int .i64 s, .int .i64 t, .int .i64 c, .int .i64 h, .int .i64 x, .int .i64 a, .int .i64 b, .int .i64 d, .int .i64 u]] w fun e w' => e = .returned (.int .i64 n) ∧ Below w.heap.size w w') := fun w => by
    have := weights_is K n hn w ok
    rw [hK] at this
    exact this
  clear hn ok ok' hK HN HO
  obtain ⟨W, hW⟩ : ∃ W, W = w.alloc (.cells #[.int .i64 1, .int .i64 o, .int .i64 s, .int .i64 t, .int .i64 c, .int .i64 h, .int .i64 x, .int .i64 a, .int .i64 b, .int .i64 d, .int .i64 u] 70) := ⟨_, rfl⟩
  have HBW : Hid (Below w.heap.size w W) := by rw [hW]; exact (Below.refl _ w).alloc (Nat.le_refl _) _
  have a0 : W.cell? ⟨w.heap.size, 0, none⟩ = some (.int .i64 1) := by rw [hW]; go_simp
  have a1 : W.cell? ⟨w.heap.size, 1, none⟩ = some (.int .i64 o) := by rw [hW]; go_simp
  have a2 : W.cell? ⟨w.heap.size, 2, none⟩ = some (.int .i64 s) := by rw [hW]; go_simp
  have a3 : W.cell? ⟨w.heap.size, 3, none⟩ = some (.int .i64 t) := by rw [hW]; go_simp
  have a4 : W.cell? ⟨w.heap.size, 4, none⟩ = some (.int .i64 c) := by rw [hW]; go_simp
  have a5 : W.cell? ⟨w.heap.size, 5, none⟩ = some (.int .i64 h) := by rw [hW]; go_simp
  have a6 : W.cell? ⟨w.heap.size, 6, none⟩ = some (.int .i64 x) := by rw [hW]; go_simp
  have a7 : W.cell? ⟨w.heap.size, 7, none⟩ = some (.int .i64 a) := by rw [hW]; go_simp
  have a8 : W.cell? ⟨w.heap.size, 8, none⟩ = some (.int .i64 b) := by rw [hW]; go_simp
  have a9 : W.cell? ⟨w.heap.size, 9, none⟩ = some (.int .i64 d) := by rw [hW]; go_simp
  have a10 : W.cell? ⟨w.heap.size, 10, none⟩ = some (.int .i64 u) := by rw [hW]; go_simp
  have hWl : w.heap.size < W.heap.size := by rw [hW]; simp
  go_enter Try.func39, Try.ntmps39
  go_wp2_with fail
  rw [← hW]
  clear hW
  have HC0 : Hid (Below W.heap.size W W.drew) := below_drew W
  have tok1 : True := trivial
  go_region_held3 (fun w' => w'.cell? ⟨w.heap.size, 0, none⟩ = some (.int .i64 1) ∧ w'.cell? ⟨w.heap.size, 1, none⟩ = some (.int .i64 o) ∧ w'.cell? ⟨w.heap.size, 2, none⟩ = some (.int .i64 s) ∧ w'.cell? ⟨w.heap.size, 3, none⟩ = some (.int .i64 t) ∧ w'.cell? ⟨w.heap.size, 4, none⟩ = some (.int .i64 c) ∧ w'.cell? ⟨w.heap.size, 5, none⟩ = some (.int .i64 h) ∧ w'.cell? ⟨w.heap.size, 6, none⟩ = some (.int .i64 x) ∧ w'.cell? ⟨w.heap.size, 7, none⟩ = some (.int .i64 a) ∧ w'.cell? ⟨w.heap.size, 8, none⟩ = some (.int .i64 b) ∧ w'.cell? ⟨w.heap.size, 9, none⟩ = some (.int .i64 d) ∧ w'.cell? ⟨w.heap.size, 10, none⟩ = some (.int .i64 u))
    (first | exact ⟨q0, q1, q2, q3, q4, q5, q6, q7, q8, q9, q10⟩ | go_keep)
    (first
      | ((have _t := tok1; clear tok1; go_at_call 38; (with_reducible refine (HCall.out _).mono ?_); rintro e w1 ⟨rfl, hb1⟩
          have HC1 := Lib.hid (HC0.out.trans (hb1.mono HC0.out.size))
          have q0 := (HC1.out.cell (p := ⟨w.heap.size, 0, none⟩) hWl).trans a0
          have q1 := (HC1.out.cell (p := ⟨w.heap.size, 1, none⟩) hWl).trans a1
          have q2 := (HC1.out.cell (p := ⟨w.heap.size, 2, none⟩) hWl).trans a2
          have q3 := (HC1.out.cell (p := ⟨w.heap.size, 3, none⟩) hWl).trans a3
          have q4 := (HC1.out.cell (p := ⟨w.heap.size, 4, none⟩) hWl).trans a4
          have q5 := (HC1.out.cell (p := ⟨w.heap.size, 5, none⟩) hWl).trans a5
          have q6 := (HC1.out.cell (p := ⟨w.heap.size, 6, none⟩) hWl).trans a6
          have q7 := (HC1.out.cell (p := ⟨w.heap.size, 7, none⟩) hWl).trans a7
          have q8 := (HC1.out.cell (p := ⟨w.heap.size, 8, none⟩) hWl).trans a8
          have q9 := (HC1.out.cell (p := ⟨w.heap.size, 9, none⟩) hWl).trans a9
          have q10 := (HC1.out.cell (p := ⟨w.heap.size, 10, none⟩) hWl).trans a10
          clear hb1))
      | fail)
  go_wp2_with fail
  go_ret
  exact ⟨ret_int V.out, HBW.out.trans (HC1.out.mono HBW.out.size)⟩

set_option maxHeartbeats 1000000 in
theorem products_square (o s t c h x a b d u : Int) (w : World) :
    Calls Try.prog 39 #[.agg #[.int .i64 2, .int .i64 o, .int .i64 s, .int .i64 t, .int .i64 c, .int .i64 h, .int .i64 x, .int .i64 a, .int .i64 b, .int .i64 d, .int .i64 u]] w fun e w' => e = .returned (.int .i64 (sizeI c h x)) ∧ Below w.heap.size w w' := by
  go_enter Try.func39, Try.ntmps39
  go_wp2_with fail
  refine (size_any c h x _).mono ?_
  rintro e w1 ⟨rfl, hb⟩
  have HB := Lib.hid (chain ((Below.refl w.heap.size w).alloc (Nat.le_refl _) _) hb)
  clear hb
  go_wp2_with fail
  go_ret
  exact ⟨rfl, HB.out⟩
set_option maxHeartbeats 1000000 in
theorem products_dense (K : Kn) (o s t c h x a b d u : Int) (n : Int) (w : World) (hK : K = ⟨⟨4, o, s, t⟩, ⟨c, h, x⟩, ⟨a, b, d⟩, u⟩) (hn : K.w = n) (ok : KnOk K) :
    Calls Try.prog 39 #[.agg #[.int .i64 4, .int .i64 o, .int .i64 s, .int .i64 t, .int .i64 c, .int .i64 h, .int .i64 x, .int .i64 a, .int .i64 b, .int .i64 d, .int .i64 u]] w fun e w' => e = .returned (.int .i64 n) ∧ Below w.heap.size w w' := by
  have HCall : Hid (∀ w, Calls Try.prog 38 #[.agg #[.int .i64 4, .int .i64 o, .int .i64 s, .int .i64 t, .int .i64 c, .int .i64 h, .int .i64 x, .int .i64 a, .int .i64 b, .int .i64 d, .int .i64 u]] w fun e w' => e = .returned (.int .i64 n) ∧ Below w.heap.size w w') := fun w => by
    have := weights_is K n hn w ok
    rw [hK] at this
    exact this
  clear hn ok hK
  go_enter Try.func39, Try.ntmps39
  go_wp2_with fail
  refine (HCall.out _).mono ?_
  rintro e w1 ⟨rfl, hb⟩
  have HB := Lib.hid (chain ((Below.refl w.heap.size w).alloc (Nat.le_refl _) _) hb)
  clear hb
  go_wp2_with fail
  go_ret
  exact ⟨rfl, HB.out⟩
set_option maxHeartbeats 1000000 in
theorem products_none (k o s t c h x a b d u : Int) (w : World) (k1 : (k == 1) = false) (k2 : (k == 2) = false) (k4 : (k == 4) = false) :
    Calls Try.prog 39 #[.agg #[.int .i64 k, .int .i64 o, .int .i64 s, .int .i64 t, .int .i64 c, .int .i64 h, .int .i64 x, .int .i64 a, .int .i64 b, .int .i64 d, .int .i64 u]] w fun e w' => e = .returned (.int .i64 0) ∧ Below w.heap.size w w' := by
  go_enter Try.func39, Try.ntmps39
  go_wp2
  go_ret
  exact ⟨rfl, (Below.refl _ w).alloc (Nat.le_refl _) _⟩
theorem products_any (k : Kn) (w : World) (hk : KnOk k) : Calls Try.prog 39 #[kv k] w fun e w' => e = .returned (.int .i64 k.p) ∧ Below w.heap.size w w' := by
  obtain ⟨⟨k, o, s, t⟩, ⟨c, h, x⟩, ⟨a, b, d⟩, u⟩ := k
  unfold kv Kn.p
  by_cases k1 : k = 1
  · subst k1
    rw [p_conv _ _ rfl]
    exact products_conv _ o s t c h x a b d u _ w rfl rfl hk
  · by_cases k2 : k = 2
    · subst k2
      rw [p_square _ _ rfl]
      exact products_square o s t c h x a b d u w
    · by_cases k4 : k = 4
      · subst k4
        rw [p_dense _ _ rfl]
        exact products_dense _ o s t c h x a b d u _ w rfl rfl hk
      · rw [p_none (l := ⟨k, o, s, t⟩) _ _ k1 k2 k4]
        exact products_none k o s t c h x a b d u w (ne_beq k1) (ne_beq k2) (ne_beq k4)

theorem must_yes (n : Int) (w : World) : Calls Try.prog 34 #[.bool true, .int .i64 n] w fun e w' => e = .returned (.tuple #[]) ∧ w = w' := by
  go_enter Try.func34, Try.ntmps34
  go_wp2
  go_end0
  exact ⟨rfl, rfl⟩
theorem must_no (n : Int) (w : World) : Calls Try.prog 34 #[.bool false, .int .i64 n] w fun e w' => e = .panicked [{ v := .iface 53 (.int .i64 n), recovered := false }] ∧ w = w' := by
  go_enter Try.func34, Try.ntmps34
  go_wp2
  exact ⟨rfl, rfl, rfl⟩

end Go.Proofs.Ytklgjhldebdegaa

namespace Go.Proofs.Ytklgjhldebdegaa
open Go.RowKit

def scells (s : Sh) : List Value := [.int .i64 s.c, .int .i64 s.h, .int .i64 s.x]
theorem kcells_len (k : Kn) : (kcells k).length = 11 := rfl
theorem scells_len (s : Sh) : (scells s).length = 3 := rfl
abbrev Rk (w : World) (A : Option Addr) (ks : List Kn) : Prop := Rg kcells w A ks
abbrev Rs (w : World) (A : Option Addr) (ss : List Sh) : Prop := Rg scells w A ss

/-- What is known of a layer, in a variable. -/
def KB (w : World) (b : Nat) (k : Kn) : Prop := w.heap[b]? = some (.cells #[.int .i64 k.l.k, .int .i64 k.l.o, .int .i64 k.l.s, .int .i64 k.l.t, .int .i64 k.i.c, .int .i64 k.i.h, .int .i64 k.i.x, .int .i64 k.u.c, .int .i64 k.u.h, .int .i64 k.u.x, .int .i64 k.a] 70 (0, 0))
theorem KB.lt {w : World} {b : Nat} {k : Kn} (H : KB w b k) : b < w.heap.size := (Array.getElem?_eq_some_iff.1 H).1
theorem KB.below {w w' : World} {b : Nat} {k : Kn} (H : KB w b k) (hb : Below w.heap.size w w') : KB w' b k := (hb.block b H.lt).trans H
theorem KB.new (w : World) (k : Kn) : KB (w.alloc (.cells #[.int .i64 k.l.k, .int .i64 k.l.o, .int .i64 k.l.s, .int .i64 k.l.t, .int .i64 k.i.c, .int .i64 k.i.h, .int .i64 k.i.x, .int .i64 k.u.c, .int .i64 k.u.h, .int .i64 k.u.x, .int .i64 k.a] 70)) w.heap.size k := by
  show (w.heap.push _)[w.heap.size]? = _
  simp
theorem KB.alloc {w : World} {b : Nat} {k : Kn} (H : KB w b k) (o : Obj) : KB (w.alloc o) b k := (Lib.alloc_old w o b H.lt).trans H
theorem KB.cells {w : World} {b : Nat} {k : Kn} (H : KB w b k) :
    w.cell? ⟨b, 0, none⟩ = some (.int .i64 k.l.k) ∧ w.cell? ⟨b, 1, none⟩ = some (.int .i64 k.l.o) ∧ w.cell? ⟨b, 2, none⟩ = some (.int .i64 k.l.s) ∧ w.cell? ⟨b, 3, none⟩ = some (.int .i64 k.l.t) ∧
    w.cell? ⟨b, 4, none⟩ = some (.int .i64 k.i.c) ∧ w.cell? ⟨b, 5, none⟩ = some (.int .i64 k.i.h) ∧ w.cell? ⟨b, 6, none⟩ = some (.int .i64 k.i.x) ∧
    w.cell? ⟨b, 7, none⟩ = some (.int .i64 k.u.c) ∧ w.cell? ⟨b, 8, none⟩ = some (.int .i64 k.u.h) ∧ w.cell? ⟨b, 9, none⟩ = some (.int .i64 k.u.x) ∧ w.cell? ⟨b, 10, none⟩ = some (.int .i64 k.a) := by
  refine ⟨?_, ?_, ?_, ?_, ?_, ?_, ?_, ?_, ?_, ?_, ?_⟩ <;> (rw [Lib.cell_of_heap H]; rfl)

def TotPost (ks : List Kn) (w : World) (e : Ending) (w' : World) : Prop := e = .returned (.tuple #[.int .i64 (totW ks), .int .i64 (totP ks)]) ∧ Below w.heap.size w w'
theorem take_bd {ks : List Kn} (h : ∀ k ∈ ks, KnOk k) (hn : ks.length ≤ 1000) (k : Nat) : 0 ≤ totW (ks.take k) ∧ totW (ks.take k) ≤ 9216000 ∧ 0 ≤ totP (ks.take k) ∧ totP (ks.take k) ≤ 1327104000 := by
  have a := tot_bd (ks.take k) fun x hx => h x (List.mem_of_mem_take hx)
  have b : (ks.take k).length ≤ 1000 := by rw [List.length_take]; omega
  omega

set_option maxHeartbeats 2000000 in
theorem total_any (ks : List Kn) (A : Option Addr) (cA n : Nat) (w : World) (hx : Rk w A ks) (ln : n = ks.length) (hn : n ≤ 1000) (hok : ∀ k ∈ ks, KnOk k) :
    Calls Try.prog 25 #[.slice A n cA] w (TotPost ks w) := by
  have HX := Lib.hid hx; have LX := Lib.hid ln; have OK := Lib.hid hok
  clear hx ln hok
  go_enter Try.func25, Try.ntmps25
  go_wp2_with fail
  go_loopw [4, 5, 10] (fun a b i wr => ∃ k : Nat, k ≤ n ∧ a = .int .i64 (totW (ks.take k)) ∧ b = .int .i64 (totP (ks.take k)) ∧ i = .int .i64 k ∧ Hid (Below w.heap.size w wr)) (fun _ _ i _ => n - (intOf i).toNat)
  case atStart => exact ⟨0, Nat.zero_le _, rfl, rfl, rfl, Below.refl _ _⟩
  case round =>
    obtain ⟨k, hk, rfl, rfl, rfl, HC⟩ := hrel
    by_cases hlt : k < n
    · have hkl : k < ks.length := by rw [← LX.out]; exact hlt
      obtain ⟨b1, o1, rfl, l1, q⟩ := HX.out (by omega)
      obtain ⟨K, hK⟩ : ∃ K, ks[k]? = some K := ⟨_, List.getElem?_eq_getElem hkl⟩
      have HK := Lib.hid hK
      have hoK := OK.out K (List.mem_of_getElem? hK)
      have HOK := Lib.hid hoK
      have q1 := Rg.at kcells_len q hK
      have q2 : ∀ r u, (kcells K)[r]? = some u → wr.cell? ⟨b1, o1 + k * 11 + r, none⟩ = some u := fun r u hu => (HC.out.cell (p := ⟨b1, o1 + k * 11 + r, none⟩) l1).trans (q1 r u hu)
      have p0 : wr.cell? ⟨b1, o1 + k * 11, none⟩ = _ := q2 0 _ rfl
      have p1 := q2 1 _ rfl
      have p2 := q2 2 _ rfl
      have p3 := q2 3 _ rfl
      have p4 := q2 4 _ rfl
      have p5 := q2 5 _ rfl
      have p6 := q2 6 _ rfl
      have p7 := q2 7 _ rfl
      have p8 := q2 8 _ rfl
      have p9 := q2 9 _ rfl
      have p10 := q2 10 _ rfl
      have bd := take_bd OK.out (by rw [← LX.out]; exact hn) k
      have bw := hoK.w
      have bp := hoK.p
      obtain ⟨x, hxe⟩ : ∃ x, x = totW (ks.take k) := ⟨_, rfl⟩
      obtain ⟨y, hye⟩ : ∃ y, y = totP (ks.take k) := ⟨_, rfl⟩
      obtain ⟨e, he⟩ : ∃ e, e = K.w := ⟨_, rfl⟩
      obtain ⟨f, hf⟩ : ∃ f, f = K.p := ⟨_, rfl⟩
      have HT : Hid (totW (ks.take (k + 1)) = x + e ∧ totP (ks.take (k + 1)) = y + f) := by
        have := tot_snoc (ks.take k) K
        rw [← take_get hK] at this
        rw [hxe, hye, he, hf]; exact this
      rw [← hxe, ← hye] at bd
      rw [← he] at bw
      rw [← hf] at bp
      rw [← hxe, ← hye]
      have HE := Lib.hid he; have HF := Lib.hid hf
      obtain ⟨bd1, bd2, bd3, bd4⟩ := bd
      obtain ⟨bw1, bw2⟩ := bw
      obtain ⟨bp1, bp2⟩ := bp
      clear q q1 q2 hK hoK hxe hye he hf
      go_wp2_with fail
      refine (weights_is K e HE.out.symm _ HOK.out).mono ?_
      rintro e1 w1 ⟨rfl, hb1⟩
      have HB1 := Lib.hid (chain (HC.out.alloc HC.out.size _) hb1)
      have z1 : wr.heap.size < w1.heap.size := by have := hb1.size; simp at this; omega
      have hKB := (KB.new wr K).below hb1
      obtain ⟨r0, r1, r2, r3, r4, r5, r6, r7, r8, r9, r10⟩ := hKB.cells
      clear hb1 hKB p0 p1 p2 p3 p4 p5 p6 p7 p8 p9 p10
      go_wp2_with fail
      refine ((products_any K _ HOK.out).mono ?_)
      rintro e1 w2 ⟨rfl, hb2⟩
      rw [← HF.out]
      have HB2 := Lib.hid (chain HB1.out hb2)
      clear hb2
      go_wp2_with fail
      go_roundw
      case rel => exact ⟨k + 1, by omega, by rw [HT.out.1], by rw [HT.out.2], by go_num, HB2⟩
      case measure => simp [intOf]; omega
    · obtain rfl : k = n := by omega
      have e : ks.take k = ks := by rw [LX.out, List.take_length]
      rw [e]
      go_wp2_with fail
      go_ret2
      exact ⟨rfl, HC.out⟩

end Go.Proofs.Ytklgjhldebdegaa

namespace Go.Proofs.Ytklgjhldebdegaa
open Go.RowKit

def shapeWrong : List PanicEntry := [{ v := .iface 53 (.int .i64 21), recovered := false }]

theorem KB.frozen {w : World} {b : Nat} {k : Kn} (H : KB w b k) : ∀ i, w.frozen? ⟨b, i, none⟩ = false := fun i => Lib.frozen_of_heap H i
theorem KB.out {w : World} {b : Nat} {k : Kn} (H : KB w b k) (p q r : Int) :
    KB (((w.setCell ⟨b, 7, none⟩ (.int .i64 p)).setCell ⟨b, 8, none⟩ (.int .i64 q)).setCell ⟨b, 9, none⟩ (.int .i64 r)) b ⟨k.l, k.i, ⟨p, q, r⟩, k.a⟩ := by
  have h1 := Lib.heap_setCell_same (i := 7) H (.int .i64 p)
  have h2 := Lib.heap_setCell_same (i := 8) h1 (.int .i64 q)
  exact Lib.heap_setCell_same (i := 9) h2 (.int .i64 r)
theorem KB.other {w : World} {b g : Nat} {k : Kn} (H : KB w b k) (hg : b ≠ g) (p q r : Int) :
    KB (((w.setCell ⟨g, 7, none⟩ (.int .i64 p)).setCell ⟨g, 8, none⟩ (.int .i64 q)).setCell ⟨g, 9, none⟩ (.int .i64 r)) b k := by
  unfold KB
  rw [Below.heap_setCell _ _ _ _ hg, Below.heap_setCell _ _ _ _ hg, Below.heap_setCell _ _ _ _ hg]
  exact H
theorem below_out {w0 w : World} {B g : Nat} (H : Below B w0 w) (hg : B ≤ g) (p q r : Int) : Below B w0 (((w.setCell ⟨g, 7, none⟩ (.int .i64 p)).setCell ⟨g, 8, none⟩ (.int .i64 q)).setCell ⟨g, 9, none⟩ (.int .i64 r)) :=
  ((H.setCell (p := ⟨g, 7, none⟩) hg _).setCell (p := ⟨g, 8, none⟩) hg _).setCell (p := ⟨g, 9, none⟩) hg _
theorem kb_four (w : World) (a b : Obj) (z k : Kn) (o1 o2 : Obj) (h1 : o1 = .cells #[.int .i64 z.l.k, .int .i64 z.l.o, .int .i64 z.l.s, .int .i64 z.l.t, .int .i64 z.i.c, .int .i64 z.i.h, .int .i64 z.i.x, .int .i64 z.u.c, .int .i64 z.u.h, .int .i64 z.u.x, .int .i64 z.a] 70)
    (h2 : o2 = .cells #[.int .i64 k.l.k, .int .i64 k.l.o, .int .i64 k.l.s, .int .i64 k.l.t, .int .i64 k.i.c, .int .i64 k.i.h, .int .i64 k.i.x, .int .i64 k.u.c, .int .i64 k.u.h, .int .i64 k.u.x, .int .i64 k.a] 70) :
    KB ((((w.alloc a).alloc b).alloc o1).alloc o2) (w.heap.size + 1 + 1) z ∧ KB ((((w.alloc a).alloc b).alloc o1).alloc o2) (w.heap.size + 1 + 1 + 1) k := by
  subst h1 h2
  have e2 : ((w.alloc a).alloc b).heap.size = w.heap.size + 1 + 1 := by simp
  constructor
  · have := (KB.new ((w.alloc a).alloc b) z).alloc (.cells #[.int .i64 k.l.k, .int .i64 k.l.o, .int .i64 k.l.s, .int .i64 k.l.t, .int .i64 k.i.c, .int .i64 k.i.h, .int .i64 k.i.x, .int .i64 k.u.c, .int .i64 k.u.h, .int .i64 k.u.x, .int .i64 k.a] 70)
    rwa [e2] at this
  · have := KB.new (((w.alloc a).alloc b).alloc (.cells #[.int .i64 z.l.k, .int .i64 z.l.o, .int .i64 z.l.s, .int .i64 z.l.t, .int .i64 z.i.c, .int .i64 z.i.h, .int .i64 z.i.x, .int .i64 z.u.c, .int .i64 z.u.h, .int .i64 z.u.x, .int .i64 z.a] 70)) k
    rwa [show (((w.alloc a).alloc b).alloc _).heap.size = w.heap.size + 1 + 1 + 1 by simp] at this
def Kn.z : Kn := ⟨⟨0, 0, 0, 0⟩, ⟨0, 0, 0⟩, ⟨0, 0, 0⟩, 0⟩
theorem below_four (w : World) (a b c d : Obj) : Below w.heap.size w ((((w.alloc a).alloc b).alloc c).alloc d) := by
  repeat first | exact Below.refl _ _ | refine chain_alloc ?_ _

set_option maxHeartbeats 4000000 in
theorem place_conv_true (o s t c h x a p q r : Int) (w : World) (hq : ∀ w, Calls Try.prog 56 #[.agg #[.int .i64 c, .int .i64 h, .int .i64 x], .int .i64 o, .int .i64 s, .int .i64 t] w (Out p q r true w)) :
    Calls Try.prog 37 #[.agg #[.int .i64 1, .int .i64 o, .int .i64 s, .int .i64 t], .agg #[.int .i64 c, .int .i64 h, .int .i64 x], .int .i64 a] w fun e w' => e = .returned (.agg #[.int .i64 1, .int .i64 o, .int .i64 s, .int .i64 t, .int .i64 c, .int .i64 h, .int .i64 x, .int .i64 p, .int .i64 q, .int .i64 r, .int .i64 a]) ∧ Below w.heap.size w w' := by
  have HQ := Lib.hid hq
  clear hq
  go_enter Try.func37, Try.ntmps37
  go_wp2_with fail
  refine (HQ.out _).mono ?_
  rintro e w1 ⟨rfl, hb⟩
  have HB := Lib.hid (chain (below_four w _ _ _ _) hb)
  obtain ⟨hR, hK⟩ := kb_four w (.cells #[.int .i64 1, .int .i64 o, .int .i64 s, .int .i64 t] 39) (.cells #[.int .i64 c, .int .i64 h, .int .i64 x] 23) Kn.z ⟨⟨1, o, s, t⟩, ⟨c, h, x⟩, ⟨0, 0, 0⟩, a⟩ _ _ rfl rfl
  have hR1 := hR.below hb
  have hK1 := hK.below hb
  have HR1 := Lib.hid hR1; have HK1 := Lib.hid hK1
  obtain ⟨k0, k1, k2, k3, k4, k5, k6, k7, k8, k9, k10⟩ := hK1.cells
  have g7 := hK1.frozen 7
  have g8 := hK1.frozen 8
  have g9 := hK1.frozen 9
  clear hb hR hK hR1 hK1
  go_wp2_with fail
  have HK2 := Lib.hid (HK1.out.out p q r)
  have HR2 := Lib.hid (HR1.out.other (g := w.heap.size + 1 + 1 + 1) (by omega) p q r)
  have HB2 := Lib.hid (below_out (g := w.heap.size + 1 + 1 + 1) HB.out (by omega) p q r)
  clear HR1 HK1 HB k0 k1 k2 k3 k4 k5 k6 k7 k8 k9 k10 g7 g8 g9
  generalize ((w1.setCell ⟨w.heap.size + 1 + 1 + 1, 7, none⟩ (.int .i64 p)).setCell ⟨w.heap.size + 1 + 1 + 1, 8, none⟩ (.int .i64 q)).setCell ⟨w.heap.size + 1 + 1 + 1, 9, none⟩ (.int .i64 r) = W2 at HK2 HR2 HB2 ⊢
  refine (must_yes 21 _).mono ?_
  rintro e w' ⟨rfl, rfl⟩
  have R2 := HR2.out
  obtain ⟨r0, r1, r2, r3, r4, r5, r6, r7, r8, r9, r10⟩ := HK2.out.cells
  obtain ⟨y0, y1, y2, y3, y4, y5, y6, y7, y8, y9, y10⟩ := R2.cells
  have f0 := R2.frozen 0
  have f1 := R2.frozen 1
  have f2 := R2.frozen 2
  have f3 := R2.frozen 3
  have f4 := R2.frozen 4
  have f5 := R2.frozen 5
  have f6 := R2.frozen 6
  have f7 := R2.frozen 7
  have f8 := R2.frozen 8
  have f9 := R2.frozen 9
  have f10 := R2.frozen 10
  clear R2
  go_wp2_with fail
  exact bodyPost_ret (v := .agg #[.int .i64 1, .int .i64 o, .int .i64 s, .int .i64 t, .int .i64 c, .int .i64 h, .int .i64 x, .int .i64 p, .int .i64 q, .int .i64 r, .int .i64 a]) (by simp [results, Try.results37, go_sem, y0, y1, y2, y3, y4, y5, y6, y7, y8, y9, y10]) rfl ⟨rfl, (((((((((((HB2.out.setCell (p := ⟨w.heap.size + 1 + 1, 0, none⟩) (by show w.heap.size ≤ w.heap.size + 1 + 1; omega) _).setCell (p := ⟨w.heap.size + 1 + 1, 1, none⟩) (by show w.heap.size ≤ w.heap.size + 1 + 1; omega) _).setCell (p := ⟨w.heap.size + 1 + 1, 2, none⟩) (by show w.heap.size ≤ w.heap.size + 1 + 1; omega) _).setCell (p := ⟨w.heap.size + 1 + 1, 3, none⟩) (by show w.heap.size ≤ w.heap.size + 1 + 1; omega) _).setCell (p := ⟨w.heap.size + 1 + 1, 4, none⟩) (by show w.heap.size ≤ w.heap.size + 1 + 1; omega) _).setCell (p := ⟨w.heap.size + 1 + 1, 5, none⟩) (by show w.heap.size ≤ w.heap.size + 1 + 1; omega) _).setCell (p := ⟨w.heap.size + 1 + 1, 6, none⟩) (by show w.heap.size ≤ w.heap.size + 1 + 1; omega) _).setCell (p := ⟨w.heap.size + 1 + 1, 7, none⟩) (by show w.heap.size ≤ w.heap.size + 1 + 1; omega) _).setCell (p := ⟨w.heap.size + 1 + 1, 8, none⟩) (by show w.heap.size ≤ w.heap.size + 1 + 1; omega) _).setCell (p := ⟨w.heap.size + 1 + 1, 9, none⟩) (by show w.heap.size ≤ w.heap.size + 1 + 1; omega) _).setCell (p := ⟨w.heap.size + 1 + 1, 10, none⟩) (by show w.heap.size ≤ w.heap.size + 1 + 1; omega) _)⟩

set_option maxHeartbeats 4000000 in
theorem place_conv_false (o s t c h x a p q r : Int) (w : World) (hq : ∀ w, Calls Try.prog 56 #[.agg #[.int .i64 c, .int .i64 h, .int .i64 x], .int .i64 o, .int .i64 s, .int .i64 t] w (Out p q r false w)) :
    Calls Try.prog 37 #[.agg #[.int .i64 1, .int .i64 o, .int .i64 s, .int .i64 t], .agg #[.int .i64 c, .int .i64 h, .int .i64 x], .int .i64 a] w fun e w' => e = .panicked shapeWrong ∧ Below w.heap.size w w' := by
  have HQ := Lib.hid hq
  clear hq
  go_enter Try.func37, Try.ntmps37
  go_wp2_with fail
  refine (HQ.out _).mono ?_
  rintro e w1 ⟨rfl, hb⟩
  have HB := Lib.hid (chain (below_four w _ _ _ _) hb)
  obtain ⟨hR, hK⟩ := kb_four w (.cells #[.int .i64 1, .int .i64 o, .int .i64 s, .int .i64 t] 39) (.cells #[.int .i64 c, .int .i64 h, .int .i64 x] 23) Kn.z ⟨⟨1, o, s, t⟩, ⟨c, h, x⟩, ⟨0, 0, 0⟩, a⟩ _ _ rfl rfl
  have hR1 := hR.below hb
  have hK1 := hK.below hb
  have HR1 := Lib.hid hR1; have HK1 := Lib.hid hK1
  obtain ⟨k0, k1, k2, k3, k4, k5, k6, k7, k8, k9, k10⟩ := hK1.cells
  have g7 := hK1.frozen 7
  have g8 := hK1.frozen 8
  have g9 := hK1.frozen 9
  clear hb hR hK hR1 hK1
  go_wp2_with fail
  have HK2 := Lib.hid (HK1.out.out p q r)
  have HR2 := Lib.hid (HR1.out.other (g := w.heap.size + 1 + 1 + 1) (by omega) p q r)
  have HB2 := Lib.hid (below_out (g := w.heap.size + 1 + 1 + 1) HB.out (by omega) p q r)
  clear HR1 HK1 HB k0 k1 k2 k3 k4 k5 k6 k7 k8 k9 k10 g7 g8 g9
  generalize ((w1.setCell ⟨w.heap.size + 1 + 1 + 1, 7, none⟩ (.int .i64 p)).setCell ⟨w.heap.size + 1 + 1 + 1, 8, none⟩ (.int .i64 q)).setCell ⟨w.heap.size + 1 + 1 + 1, 9, none⟩ (.int .i64 r) = W2 at HK2 HR2 HB2 ⊢
  refine (must_no 21 _).mono ?_
  rintro e w' ⟨rfl, rfl⟩
  go_wp2_with fail
  exact ⟨rfl, rfl, HB2.out⟩

set_option maxHeartbeats 4000000 in
theorem place_pool_true (o s t c h x a p q r : Int) (w : World) (hq : ∀ w, Calls Try.prog 57 #[.agg #[.int .i64 c, .int .i64 h, .int .i64 x], .int .i64 s] w (Out p q r true w)) :
    Calls Try.prog 37 #[.agg #[.int .i64 3, .int .i64 o, .int .i64 s, .int .i64 t], .agg #[.int .i64 c, .int .i64 h, .int .i64 x], .int .i64 a] w fun e w' => e = .returned (.agg #[.int .i64 3, .int .i64 o, .int .i64 s, .int .i64 t, .int .i64 c, .int .i64 h, .int .i64 x, .int .i64 p, .int .i64 q, .int .i64 r, .int .i64 a]) ∧ Below w.heap.size w w' := by
  have HQ := Lib.hid hq
  clear hq
  go_enter Try.func37, Try.ntmps37
  go_wp2_with fail
  refine (HQ.out _).mono ?_
  rintro e w1 ⟨rfl, hb⟩
  have HB := Lib.hid (chain (below_four w _ _ _ _) hb)
  obtain ⟨hR, hK⟩ := kb_four w (.cells #[.int .i64 3, .int .i64 o, .int .i64 s, .int .i64 t] 39) (.cells #[.int .i64 c, .int .i64 h, .int .i64 x] 23) Kn.z ⟨⟨3, o, s, t⟩, ⟨c, h, x⟩, ⟨0, 0, 0⟩, a⟩ _ _ rfl rfl
  have hR1 := hR.below hb
  have hK1 := hK.below hb
  have HR1 := Lib.hid hR1; have HK1 := Lib.hid hK1
  obtain ⟨k0, k1, k2, k3, k4, k5, k6, k7, k8, k9, k10⟩ := hK1.cells
  have g7 := hK1.frozen 7
  have g8 := hK1.frozen 8
  have g9 := hK1.frozen 9
  clear hb hR hK hR1 hK1
  go_wp2_with fail
  have HK2 := Lib.hid (HK1.out.out p q r)
  have HR2 := Lib.hid (HR1.out.other (g := w.heap.size + 1 + 1 + 1) (by omega) p q r)
  have HB2 := Lib.hid (below_out (g := w.heap.size + 1 + 1 + 1) HB.out (by omega) p q r)
  clear HR1 HK1 HB k0 k1 k2 k3 k4 k5 k6 k7 k8 k9 k10 g7 g8 g9
  generalize ((w1.setCell ⟨w.heap.size + 1 + 1 + 1, 7, none⟩ (.int .i64 p)).setCell ⟨w.heap.size + 1 + 1 + 1, 8, none⟩ (.int .i64 q)).setCell ⟨w.heap.size + 1 + 1 + 1, 9, none⟩ (.int .i64 r) = W2 at HK2 HR2 HB2 ⊢
  refine (must_yes 21 _).mono ?_
  rintro e w' ⟨rfl, rfl⟩
  have R2 := HR2.out
  obtain ⟨r0, r1, r2, r3, r4, r5, r6, r7, r8, r9, r10⟩ := HK2.out.cells
  obtain ⟨y0, y1, y2, y3, y4, y5, y6, y7, y8, y9, y10⟩ := R2.cells
  have f0 := R2.frozen 0
  have f1 := R2.frozen 1
  have f2 := R2.frozen 2
  have f3 := R2.frozen 3
  have f4 := R2.frozen 4
  have f5 := R2.frozen 5
  have f6 := R2.frozen 6
  have f7 := R2.frozen 7
  have f8 := R2.frozen 8
  have f9 := R2.frozen 9
  have f10 := R2.frozen 10
  clear R2
  go_wp2_with fail
  exact bodyPost_ret (v := .agg #[.int .i64 3, .int .i64 o, .int .i64 s, .int .i64 t, .int .i64 c, .int .i64 h, .int .i64 x, .int .i64 p, .int .i64 q, .int .i64 r, .int .i64 a]) (by simp [results, Try.results37, go_sem, y0, y1, y2, y3, y4, y5, y6, y7, y8, y9, y10]) rfl ⟨rfl, (((((((((((HB2.out.setCell (p := ⟨w.heap.size + 1 + 1, 0, none⟩) (by show w.heap.size ≤ w.heap.size + 1 + 1; omega) _).setCell (p := ⟨w.heap.size + 1 + 1, 1, none⟩) (by show w.heap.size ≤ w.heap.size + 1 + 1; omega) _).setCell (p := ⟨w.heap.size + 1 + 1, 2, none⟩) (by show w.heap.size ≤ w.heap.size + 1 + 1; omega) _).setCell (p := ⟨w.heap.size + 1 + 1, 3, none⟩) (by show w.heap.size ≤ w.heap.size + 1 + 1; omega) _).setCell (p := ⟨w.heap.size + 1 + 1, 4, none⟩) (by show w.heap.size ≤ w.heap.size + 1 + 1; omega) _).setCell (p := ⟨w.heap.size + 1 + 1, 5, none⟩) (by show w.heap.size ≤ w.heap.size + 1 + 1; omega) _).setCell (p := ⟨w.heap.size + 1 + 1, 6, none⟩) (by show w.heap.size ≤ w.heap.size + 1 + 1; omega) _).setCell (p := ⟨w.heap.size + 1 + 1, 7, none⟩) (by show w.heap.size ≤ w.heap.size + 1 + 1; omega) _).setCell (p := ⟨w.heap.size + 1 + 1, 8, none⟩) (by show w.heap.size ≤ w.heap.size + 1 + 1; omega) _).setCell (p := ⟨w.heap.size + 1 + 1, 9, none⟩) (by show w.heap.size ≤ w.heap.size + 1 + 1; omega) _).setCell (p := ⟨w.heap.size + 1 + 1, 10, none⟩) (by show w.heap.size ≤ w.heap.size + 1 + 1; omega) _)⟩

set_option maxHeartbeats 4000000 in
theorem place_pool_false (o s t c h x a p q r : Int) (w : World) (hq : ∀ w, Calls Try.prog 57 #[.agg #[.int .i64 c, .int .i64 h, .int .i64 x], .int .i64 s] w (Out p q r false w)) :
    Calls Try.prog 37 #[.agg #[.int .i64 3, .int .i64 o, .int .i64 s, .int .i64 t], .agg #[.int .i64 c, .int .i64 h, .int .i64 x], .int .i64 a] w fun e w' => e = .panicked shapeWrong ∧ Below w.heap.size w w' := by
  have HQ := Lib.hid hq
  clear hq
  go_enter Try.func37, Try.ntmps37
  go_wp2_with fail
  refine (HQ.out _).mono ?_
  rintro e w1 ⟨rfl, hb⟩
  have HB := Lib.hid (chain (below_four w _ _ _ _) hb)
  obtain ⟨hR, hK⟩ := kb_four w (.cells #[.int .i64 3, .int .i64 o, .int .i64 s, .int .i64 t] 39) (.cells #[.int .i64 c, .int .i64 h, .int .i64 x] 23) Kn.z ⟨⟨3, o, s, t⟩, ⟨c, h, x⟩, ⟨0, 0, 0⟩, a⟩ _ _ rfl rfl
  have hR1 := hR.below hb
  have hK1 := hK.below hb
  have HR1 := Lib.hid hR1; have HK1 := Lib.hid hK1
  obtain ⟨k0, k1, k2, k3, k4, k5, k6, k7, k8, k9, k10⟩ := hK1.cells
  have g7 := hK1.frozen 7
  have g8 := hK1.frozen 8
  have g9 := hK1.frozen 9
  clear hb hR hK hR1 hK1
  go_wp2_with fail
  have HK2 := Lib.hid (HK1.out.out p q r)
  have HR2 := Lib.hid (HR1.out.other (g := w.heap.size + 1 + 1 + 1) (by omega) p q r)
  have HB2 := Lib.hid (below_out (g := w.heap.size + 1 + 1 + 1) HB.out (by omega) p q r)
  clear HR1 HK1 HB k0 k1 k2 k3 k4 k5 k6 k7 k8 k9 k10 g7 g8 g9
  generalize ((w1.setCell ⟨w.heap.size + 1 + 1 + 1, 7, none⟩ (.int .i64 p)).setCell ⟨w.heap.size + 1 + 1 + 1, 8, none⟩ (.int .i64 q)).setCell ⟨w.heap.size + 1 + 1 + 1, 9, none⟩ (.int .i64 r) = W2 at HK2 HR2 HB2 ⊢
  refine (must_no 21 _).mono ?_
  rintro e w' ⟨rfl, rfl⟩
  go_wp2_with fail
  exact ⟨rfl, rfl, HB2.out⟩

end Go.Proofs.Ytklgjhldebdegaa

namespace Go.Proofs.Ytklgjhldebdegaa
open Go.RowKit

set_option maxHeartbeats 4000000 in
theorem place_square (o s t c h x a : Int) (w : World) :
    Calls Try.prog 37 #[.agg #[.int .i64 2, .int .i64 o, .int .i64 s, .int .i64 t], .agg #[.int .i64 c, .int .i64 h, .int .i64 x], .int .i64 a] w fun e w' => e = .returned (.agg #[.int .i64 2, .int .i64 o, .int .i64 s, .int .i64 t, .int .i64 c, .int .i64 h, .int .i64 x, .int .i64 c, .int .i64 h, .int .i64 x, .int .i64 a]) ∧ Below w.heap.size w w' := by
  go_enter Try.func37, Try.ntmps37
  go_wp2_with fail
  obtain ⟨W2, hW2⟩ : ∃ W2, W2 = (((w.alloc (.cells #[.int .i64 2, .int .i64 o, .int .i64 s, .int .i64 t] 39)).alloc (.cells #[.int .i64 c, .int .i64 h, .int .i64 x] 23)).alloc (.cells #[.int .i64 0, .int .i64 0, .int .i64 0, .int .i64 0, .int .i64 0, .int .i64 0, .int .i64 0, .int .i64 0, .int .i64 0, .int .i64 0, .int .i64 0] 70)).alloc (.cells #[.int .i64 2, .int .i64 o, .int .i64 s, .int .i64 t, .int .i64 c, .int .i64 h, .int .i64 x, .int .i64 c, .int .i64 h, .int .i64 x, .int .i64 a] 70) := ⟨_, rfl⟩
  rw [← hW2]
  obtain ⟨hR, hK⟩ := kb_four w (.cells #[.int .i64 2, .int .i64 o, .int .i64 s, .int .i64 t] 39) (.cells #[.int .i64 c, .int .i64 h, .int .i64 x] 23) Kn.z ⟨⟨2, o, s, t⟩, ⟨c, h, x⟩, ⟨c, h, x⟩, a⟩ _ _ rfl rfl
  have HR2 : Hid (KB W2 (w.heap.size + 1 + 1) Kn.z) := by rw [hW2]; exact hR
  have HK2 : Hid (KB W2 (w.heap.size + 1 + 1 + 1) ⟨⟨2, o, s, t⟩, ⟨c, h, x⟩, ⟨c, h, x⟩, a⟩) := by rw [hW2]; exact hK
  have HB2 : Hid (Below w.heap.size w W2) := by rw [hW2]; exact below_four w _ _ _ _
  clear hR hK hW2
  refine (must_yes 21 _).mono ?_
  rintro e w' ⟨rfl, rfl⟩
  have R2 := HR2.out
  obtain ⟨r0, r1, r2, r3, r4, r5, r6, r7, r8, r9, r10⟩ := HK2.out.cells
  obtain ⟨y0, y1, y2, y3, y4, y5, y6, y7, y8, y9, y10⟩ := R2.cells
  have f0 := R2.frozen 0
  have f1 := R2.frozen 1
  have f2 := R2.frozen 2
  have f3 := R2.frozen 3
  have f4 := R2.frozen 4
  have f5 := R2.frozen 5
  have f6 := R2.frozen 6
  have f7 := R2.frozen 7
  have f8 := R2.frozen 8
  have f9 := R2.frozen 9
  have f10 := R2.frozen 10
  clear R2
  go_wp2_with fail
  exact bodyPost_ret (v := .agg #[.int .i64 2, .int .i64 o, .int .i64 s, .int .i64 t, .int .i64 c, .int .i64 h, .int .i64 x, .int .i64 c, .int .i64 h, .int .i64 x, .int .i64 a]) (by simp [results, Try.results37, go_sem, y0, y1, y2, y3, y4, y5, y6, y7, y8, y9, y10]) rfl ⟨rfl, (((((((((((HB2.out.setCell (p := ⟨w.heap.size + 1 + 1, 0, none⟩) (by show w.heap.size ≤ w.heap.size + 1 + 1; omega) _).setCell (p := ⟨w.heap.size + 1 + 1, 1, none⟩) (by show w.heap.size ≤ w.heap.size + 1 + 1; omega) _).setCell (p := ⟨w.heap.size + 1 + 1, 2, none⟩) (by show w.heap.size ≤ w.heap.size + 1 + 1; omega) _).setCell (p := ⟨w.heap.size + 1 + 1, 3, none⟩) (by show w.heap.size ≤ w.heap.size + 1 + 1; omega) _).setCell (p := ⟨w.heap.size + 1 + 1, 4, none⟩) (by show w.heap.size ≤ w.heap.size + 1 + 1; omega) _).setCell (p := ⟨w.heap.size + 1 + 1, 5, none⟩) (by show w.heap.size ≤ w.heap.size + 1 + 1; omega) _).setCell (p := ⟨w.heap.size + 1 + 1, 6, none⟩) (by show w.heap.size ≤ w.heap.size + 1 + 1; omega) _).setCell (p := ⟨w.heap.size + 1 + 1, 7, none⟩) (by show w.heap.size ≤ w.heap.size + 1 + 1; omega) _).setCell (p := ⟨w.heap.size + 1 + 1, 8, none⟩) (by show w.heap.size ≤ w.heap.size + 1 + 1; omega) _).setCell (p := ⟨w.heap.size + 1 + 1, 9, none⟩) (by show w.heap.size ≤ w.heap.size + 1 + 1; omega) _).setCell (p := ⟨w.heap.size + 1 + 1, 10, none⟩) (by show w.heap.size ≤ w.heap.size + 1 + 1; omega) _)⟩

set_option maxHeartbeats 4000000 in
theorem place_dense_true (o s t c h x a : Int) (w : World) (hq : rightB o 1 1 = true) :
    Calls Try.prog 37 #[.agg #[.int .i64 4, .int .i64 o, .int .i64 s, .int .i64 t], .agg #[.int .i64 c, .int .i64 h, .int .i64 x], .int .i64 a] w fun e w' => e = .returned (.agg #[.int .i64 4, .int .i64 o, .int .i64 s, .int .i64 t, .int .i64 c, .int .i64 h, .int .i64 x, .int .i64 o, .int .i64 1, .int .i64 1, .int .i64 a]) ∧ Below w.heap.size w w' := by
  have HQ := Lib.hid hq
  clear hq
  go_enter Try.func37, Try.ntmps37
  go_wp2_with fail
  refine (right_any o 1 1 _).mono ?_
  rintro e W2 ⟨rfl, hb⟩
  rw [HQ.out]
  have HB2 := Lib.hid (chain (below_four w _ _ _ _) hb)
  obtain ⟨hR, hK⟩ := kb_four w (.cells #[.int .i64 4, .int .i64 o, .int .i64 s, .int .i64 t] 39) (.cells #[.int .i64 c, .int .i64 h, .int .i64 x] 23) Kn.z ⟨⟨4, o, s, t⟩, ⟨c, h, x⟩, ⟨o, 1, 1⟩, a⟩ _ _ rfl rfl
  have HR2 := Lib.hid (hR.below hb)
  have HK2 := Lib.hid (hK.below hb)
  clear hb hR hK
  go_wp2_with fail
  refine (must_yes 21 _).mono ?_
  rintro e w' ⟨rfl, rfl⟩
  have R2 := HR2.out
  obtain ⟨r0, r1, r2, r3, r4, r5, r6, r7, r8, r9, r10⟩ := HK2.out.cells
  obtain ⟨y0, y1, y2, y3, y4, y5, y6, y7, y8, y9, y10⟩ := R2.cells
  have f0 := R2.frozen 0
  have f1 := R2.frozen 1
  have f2 := R2.frozen 2
  have f3 := R2.frozen 3
  have f4 := R2.frozen 4
  have f5 := R2.frozen 5
  have f6 := R2.frozen 6
  have f7 := R2.frozen 7
  have f8 := R2.frozen 8
  have f9 := R2.frozen 9
  have f10 := R2.frozen 10
  clear R2
  go_wp2_with fail
  exact bodyPost_ret (v := .agg #[.int .i64 4, .int .i64 o, .int .i64 s, .int .i64 t, .int .i64 c, .int .i64 h, .int .i64 x, .int .i64 o, .int .i64 1, .int .i64 1, .int .i64 a]) (by simp [results, Try.results37, go_sem, y0, y1, y2, y3, y4, y5, y6, y7, y8, y9, y10]) rfl ⟨rfl, (((((((((((HB2.out.setCell (p := ⟨w.heap.size + 1 + 1, 0, none⟩) (by show w.heap.size ≤ w.heap.size + 1 + 1; omega) _).setCell (p := ⟨w.heap.size + 1 + 1, 1, none⟩) (by show w.heap.size ≤ w.heap.size + 1 + 1; omega) _).setCell (p := ⟨w.heap.size + 1 + 1, 2, none⟩) (by show w.heap.size ≤ w.heap.size + 1 + 1; omega) _).setCell (p := ⟨w.heap.size + 1 + 1, 3, none⟩) (by show w.heap.size ≤ w.heap.size + 1 + 1; omega) _).setCell (p := ⟨w.heap.size + 1 + 1, 4, none⟩) (by show w.heap.size ≤ w.heap.size + 1 + 1; omega) _).setCell (p := ⟨w.heap.size + 1 + 1, 5, none⟩) (by show w.heap.size ≤ w.heap.size + 1 + 1; omega) _).setCell (p := ⟨w.heap.size + 1 + 1, 6, none⟩) (by show w.heap.size ≤ w.heap.size + 1 + 1; omega) _).setCell (p := ⟨w.heap.size + 1 + 1, 7, none⟩) (by show w.heap.size ≤ w.heap.size + 1 + 1; omega) _).setCell (p := ⟨w.heap.size + 1 + 1, 8, none⟩) (by show w.heap.size ≤ w.heap.size + 1 + 1; omega) _).setCell (p := ⟨w.heap.size + 1 + 1, 9, none⟩) (by show w.heap.size ≤ w.heap.size + 1 + 1; omega) _).setCell (p := ⟨w.heap.size + 1 + 1, 10, none⟩) (by show w.heap.size ≤ w.heap.size + 1 + 1; omega) _)⟩

set_option maxHeartbeats 4000000 in
theorem place_dense_false (o s t c h x a : Int) (w : World) (hq : rightB o 1 1 = false) :
    Calls Try.prog 37 #[.agg #[.int .i64 4, .int .i64 o, .int .i64 s, .int .i64 t], .agg #[.int .i64 c, .int .i64 h, .int .i64 x], .int .i64 a] w fun e w' => e = .panicked shapeWrong ∧ Below w.heap.size w w' := by
  have HQ := Lib.hid hq
  clear hq
  go_enter Try.func37, Try.ntmps37
  go_wp2_with fail
  refine (right_any o 1 1 _).mono ?_
  rintro e W2 ⟨rfl, hb⟩
  rw [HQ.out]
  have HB2 := Lib.hid (chain (below_four w _ _ _ _) hb)
  obtain ⟨hR, hK⟩ := kb_four w (.cells #[.int .i64 4, .int .i64 o, .int .i64 s, .int .i64 t] 39) (.cells #[.int .i64 c, .int .i64 h, .int .i64 x] 23) Kn.z ⟨⟨4, o, s, t⟩, ⟨c, h, x⟩, ⟨o, 1, 1⟩, a⟩ _ _ rfl rfl
  have HR2 := Lib.hid (hR.below hb)
  have HK2 := Lib.hid (hK.below hb)
  clear hb hR hK
  go_wp2_with fail
  refine (must_no 21 _).mono ?_
  rintro e w' ⟨rfl, rfl⟩
  go_wp2_with fail
  exact ⟨rfl, rfl, HB2.out⟩

theorem place_yes (l : Ly) (s : Sh) (a : Int) (w : World) (hk : lyB l = true) (ho : okS s l = true) :
    Calls Try.prog 37 #[.agg #[.int .i64 l.k, .int .i64 l.o, .int .i64 l.s, .int .i64 l.t], .agg #[.int .i64 s.c, .int .i64 s.h, .int .i64 s.x], .int .i64 a] w fun e w' => e = .returned (kv ⟨l, s, outS s l, a⟩) ∧ Below w.heap.size w w' := by
  have hc := ly_kind hk
  obtain ⟨k, o, z, t⟩ := l
  obtain ⟨c, h, x⟩ := s
  unfold kv
  rcases hc with hk | hk | hk | hk
  · obtain rfl : k = 1 := hk
    obtain ⟨e1, e2⟩ := out_conv ⟨c, h, x⟩ (l := ⟨1, o, z, t⟩) rfl
    rw [e1]
    rw [e2] at ho
    refine place_conv_true o z t c h x a _ _ _ w fun w => ?_
    have := conv_any c h x o z t w
    rwa [show convB c h x o z t = true from ho] at this
  · obtain rfl : k = 2 := hk
    rw [(out_square ⟨c, h, x⟩ (l := ⟨2, o, z, t⟩) rfl).1]
    exact place_square o z t c h x a w
  · obtain rfl : k = 3 := hk
    obtain ⟨e1, e2⟩ := out_pool ⟨c, h, x⟩ (l := ⟨3, o, z, t⟩) rfl
    rw [e1]
    rw [e2] at ho
    refine place_pool_true o z t c h x a _ _ _ w fun w => ?_
    have := pool_any c h x z w
    rwa [show poolB c h x z = true from ho] at this
  · obtain rfl : k = 4 := hk
    obtain ⟨e1, e2⟩ := out_dense ⟨c, h, x⟩ (l := ⟨4, o, z, t⟩) rfl
    rw [e1]
    rw [e2] at ho
    exact place_dense_true o z t c h x a w ho
theorem place_no (l : Ly) (s : Sh) (a : Int) (w : World) (hk : lyB l = true) (ho : okS s l = false) :
    Calls Try.prog 37 #[.agg #[.int .i64 l.k, .int .i64 l.o, .int .i64 l.s, .int .i64 l.t], .agg #[.int .i64 s.c, .int .i64 s.h, .int .i64 s.x], .int .i64 a] w fun e w' => e = .panicked shapeWrong ∧ Below w.heap.size w w' := by
  have hc := ly_kind hk
  obtain ⟨k, o, z, t⟩ := l
  obtain ⟨c, h, x⟩ := s
  rcases hc with hk | hk | hk | hk
  · obtain rfl : k = 1 := hk
    obtain ⟨e1, e2⟩ := out_conv ⟨c, h, x⟩ (l := ⟨1, o, z, t⟩) rfl
    rw [e2] at ho
    refine place_conv_false o z t c h x a (convC c h x o z t) (convH c h x o z t) (convW c h x o z t) w fun w => ?_
    have := conv_any c h x o z t w
    rwa [show convB c h x o z t = false from ho] at this
  · obtain rfl : k = 2 := hk
    rw [(out_square ⟨c, h, x⟩ (l := ⟨2, o, z, t⟩) rfl).2] at ho
    cases ho
  · obtain rfl : k = 3 := hk
    obtain ⟨e1, e2⟩ := out_pool ⟨c, h, x⟩ (l := ⟨3, o, z, t⟩) rfl
    rw [e2] at ho
    refine place_pool_false o z t c h x a (poolC c h x z) (poolH c h x z) (poolW c h x z) w fun w => ?_
    have := pool_any c h x z w
    rwa [show poolB c h x z = false from ho] at this
  · obtain rfl : k = 4 := hk
    obtain ⟨e1, e2⟩ := out_dense ⟨c, h, x⟩ (l := ⟨4, o, z, t⟩) rfl
    rw [e2] at ho
    exact place_dense_false o z t c h x a w ho

end Go.Proofs.Ytklgjhldebdegaa

namespace Go.Proofs.Ytklgjhldebdegaa
open Go.RowKit

theorem catch_idle (p q : Addr) (w : World) :
    CallsD Try.prog 33 #[.pointer (some p), .pointer (some q)] .returning w fun e u' w' => e = .returned (.tuple #[]) ∧ u' = .returning ∧ w' = w := by
  refine callsD_of_wpS Try.func33 rfl fun c₀ cs hu => ?_
  apply wpS_seq
  apply wpS_region
  simp [wpOpsS, go_sem, recoverD, hu, Try.ntmps33, Exit.thenS]
  refine wpS_of_wp ?_
  go_wp2
  cases c₀
  simp_all [bodyPostS, results, Try.results33]

theorem catch_panicking (p q : Addr) (v0 v1 : Value) (n : Int) (w : World) (hp : w.cell? p = some v0) (fp : w.frozen? p = false) (hq : w.cell? q = some v1) (fq : w.frozen? q = false) (hpq : q.block ≠ p.block) :
    CallsD Try.prog 33 #[.pointer (some p), .pointer (some q)] (.panicking [{ v := .iface 53 (.int .i64 n), recovered := false }]) w fun e u' w' =>
      e = .returned (.tuple #[]) ∧ u' = .panicking [{ v := .iface 53 (.int .i64 n), recovered := true }] ∧ w' = ((w.setCell p (.slice none 0 0)).setCell q (.int .i64 n)).drew := by
  refine callsD_of_wpS Try.func33 rfl fun c₀ cs hu => ?_
  apply wpS_seq
  apply wpS_region
  simp [wpOpsS, go_sem, recoverD, hu, Try.ntmps33, Exit.thenS]
  refine wpS_of_wp ?_
  have hq2 : (w.setCell p (.slice none 0 0)).cell? q = some v1 := (World.cell?_setCell_other w p q _ (fun e => hpq (by rw [e]))).trans hq
  have hta : ∀ w, (Instr.typeAssert (.iface 53 (.int .i64 n)) 20 53 false).run Try.prog w = .ok (.int .i64 n) w := fun _ => by kernel_rfl
  go_wp2
  change Code.wp _ _ _ { tmps := #[.pointer (some p), .pointer (some q), .iface 53 (.int .i64 n), .iface 53 (.int .i64 n), .iface 53 (.int .i64 n), .bool true, undef, undef], defers := [] } w
  go_region
  exact ⟨rfl, _, rfl, .tuple #[], by simp [results, Try.results33], rfl, rfl, rfl⟩

end Go.Proofs.Ytklgjhldebdegaa

namespace Go.Proofs.Ytklgjhldebdegaa
open Go.RowKit

theorem err_form {N : Nt} (h : formB N = false) : errN N = 12 := by unfold errN; rw [if_pos h]
theorem err_arg {N : Nt} (h : formB N = true) (r : N.s.r = false) : errN N = 1 := by
  unfold errN; rw [if_neg (by rw [h]; decide), if_pos r]
theorem err_shape {N : Nt} (h : formB N = true) (r : N.s.r = true) (f : fitL N.s N.ls = false) : errN N = 21 := by
  unfold errN; rw [if_neg (by rw [h]; decide), if_neg (by rw [r]; decide), if_pos f]
theorem err_full {N : Nt} (h : formB N = true) (r : N.s.r = true) (f : fitL N.s N.ls = true) (g : ¬ (sumW N.s N.ls ≤ 512 ∧ sumP N.s N.ls ≤ 512)) : errN N = 5 := by
  unfold errN; rw [if_neg (by rw [h]; decide), if_neg (by rw [r]; decide), if_neg (by rw [f]; decide), if_neg g]
theorem err_ok {N : Nt} (h : formB N = true) (r : N.s.r = true) (f : fitL N.s N.ls = true) (g : sumW N.s N.ls ≤ 512 ∧ sumP N.s N.ls ≤ 512) : errN N = 0 := by
  unfold errN; rw [if_neg (by rw [h]; decide), if_neg (by rw [r]; decide), if_neg (by rw [f]; decide), if_pos g]
theorem kn_wrong {N : Nt} (h : errN N ≠ 0) : knN N = [] := if_neg h
theorem kn_ok0 {N : Nt} (h : errN N = 0) : knN N = knL N.s 0 N.ls := if_pos h

def LookTo (N : Nt) (w : World) (e : Ending) (w' : World) : Prop :=
  ∃ (A : Option Addr) (k n : Nat), e = .returned (.tuple #[.slice A n k, .int .i64 (errN N)]) ∧ n = (knN N).length ∧ Rk w' A (knN N) ∧ Below w.heap.size w w'
theorem look_bad {N : Nt} {w w' : World} {n : Int} (h : errN N = n) (h0 : n ≠ 0) (hb : Below w.heap.size w w') : LookTo N w (.returned (.tuple #[.slice none 0 0, .int .i64 n])) w' := by
  subst h
  rw [LookTo, kn_wrong h0]
  exact ⟨none, 0, 0, rfl, rfl, Rg.nil _ _ _, hb⟩

/-- A shape in a variable. -/
def SB (w : World) (b : Nat) (s : Sh) : Prop := w.heap[b]? = some (.cells #[.int .i64 s.c, .int .i64 s.h, .int .i64 s.x] 23 (0, 0))
theorem SB.lt {w : World} {b : Nat} {s : Sh} (H : SB w b s) : b < w.heap.size := (Array.getElem?_eq_some_iff.1 H).1
theorem SB.below {w w' : World} {b : Nat} {s : Sh} (H : SB w b s) (hb : Below w.heap.size w w') : SB w' b s := (hb.block b H.lt).trans H
theorem SB.cells {w : World} {b : Nat} {s : Sh} (H : SB w b s) : w.cell? ⟨b, 0, none⟩ = some (.int .i64 s.c) ∧ w.cell? ⟨b, 1, none⟩ = some (.int .i64 s.h) ∧ w.cell? ⟨b, 2, none⟩ = some (.int .i64 s.x) := by
  refine ⟨?_, ?_, ?_⟩ <;> (rw [Lib.cell_of_heap H]; rfl)
theorem SB.frozen {w : World} {b : Nat} {s : Sh} (H : SB w b s) : ∀ i, w.frozen? ⟨b, i, none⟩ = false := fun i => Lib.frozen_of_heap H i
theorem SB.new (w : World) (s : Sh) : SB (w.alloc (.cells #[.int .i64 s.c, .int .i64 s.h, .int .i64 s.x] 23)) w.heap.size s := by
  show (w.heap.push _)[w.heap.size]? = _
  simp
theorem SB.set3 {w : World} {b : Nat} {s : Sh} (H : SB w b s) (p q r : Int) : SB (((w.setCell ⟨b, 0, none⟩ (.int .i64 p)).setCell ⟨b, 1, none⟩ (.int .i64 q)).setCell ⟨b, 2, none⟩ (.int .i64 r)) b ⟨p, q, r⟩ := by
  have h1 := Lib.heap_setCell_same (i := 0) H (.int .i64 p)
  have h2 := Lib.heap_setCell_same (i := 1) h1 (.int .i64 q)
  exact Lib.heap_setCell_same (i := 2) h2 (.int .i64 r)
theorem heap_set3 (w : World) (g b : Nat) (h : g ≠ b) (p q r : Value) : (((w.setCell ⟨b, 0, none⟩ p).setCell ⟨b, 1, none⟩ q).setCell ⟨b, 2, none⟩ r).heap[g]? = w.heap[g]? := by
  rw [Below.heap_setCell _ _ _ _ h, Below.heap_setCell _ _ _ _ h, Below.heap_setCell _ _ _ _ h]
theorem below_set3 {w0 w : World} {B b : Nat} (H : Below B w0 w) (hb : B ≤ b) (p q r : Value) : Below B w0 (((w.setCell ⟨b, 0, none⟩ p).setCell ⟨b, 1, none⟩ q).setCell ⟨b, 2, none⟩ r) :=
  ((H.setCell (p := ⟨b, 0, none⟩) hb _).setCell (p := ⟨b, 1, none⟩) hb _).setCell (p := ⟨b, 2, none⟩) hb _

/-! ### The door -/
theorem results_cells {tmps : Array Value} {b1 b2 : Nat} {v0 v1 : Value} {W : World} (h2 : tmps.getD 2 undef = .pointer (some ⟨b1, 0, none⟩)) (h3 : tmps.getD 3 undef = .pointer (some ⟨b2, 0, none⟩))
    (c1 : CB W b1 62 v0) (c2 : CB W b2 53 v1) : (results Try.f24 tmps).run Try.prog W = .ok (.tuple #[v0, v1]) W := by
  have h2' : tmps[2]?.getD undef = .pointer (some ⟨b1, 0, none⟩) := by simpa using h2
  have h3' : tmps[3]?.getD undef = .pointer (some ⟨b2, 0, none⟩) := by simpa using h3
  have d1 := c1.cell
  have d2 := c2.cell
  simp [results, Try.results24, go_sem, h2', h3', d1, d2]
theorem leave_fine {tmps : Array Value} {R : Ending → World → Prop} {b1 b2 : Nat} {v0 v1 : Value} {W : World} (h2 : tmps.getD 2 undef = .pointer (some ⟨b1, 0, none⟩)) (h3 : tmps.getD 3 undef = .pointer (some ⟨b2, 0, none⟩))
    (c1 : CB W b1 62 v0) (c2 : CB W b2 53 v1) (hR : R (.returned (.tuple #[v0, v1])) W) :
    Leaves Try.prog Try.f24 tmps R [{ target := .fn (.func 33) #[.pointer (some ⟨b1, 0, none⟩), .pointer (some ⟨b2, 0, none⟩)], args := #[] }] .returning W := by
  refine leaves_cons (f := 33) (args := #[.pointer (some ⟨b1, 0, none⟩), .pointer (some ⟨b2, 0, none⟩)]) (by simp) (by simp [go_sem]) ?_
  refine (catch_idle ⟨b1, 0, none⟩ ⟨b2, 0, none⟩ _).mono ?_
  rintro e u' w'' ⟨rfl, rfl, rfl⟩
  exact ⟨_, results_cells h2 h3 c1 c2, hR⟩
theorem leave_wrong {tmps : Array Value} {R : Ending → World → Prop} {b1 b2 : Nat} (n : Int) {v0 v1 : Value} {W : World} (h2 : tmps.getD 2 undef = .pointer (some ⟨b1, 0, none⟩)) (h3 : tmps.getD 3 undef = .pointer (some ⟨b2, 0, none⟩))
    (c1 : CB W b1 62 v0) (c2 : CB W b2 53 v1) (hne : b2 ≠ b1) (hR : R (.returned (.tuple #[.slice none 0 0, .int .i64 n])) ((W.setCell ⟨b1, 0, none⟩ (.slice none 0 0)).setCell ⟨b2, 0, none⟩ (.int .i64 n)).drew) :
    Leaves Try.prog Try.f24 tmps R [{ target := .fn (.func 33) #[.pointer (some ⟨b1, 0, none⟩), .pointer (some ⟨b2, 0, none⟩)], args := #[] }] (.panicking [{ v := .iface 53 (.int .i64 n), recovered := false }]) W := by
  refine leaves_cons (f := 33) (args := #[.pointer (some ⟨b1, 0, none⟩), .pointer (some ⟨b2, 0, none⟩)]) (by simp) (by simp [go_sem]) ?_
  refine (catch_panicking ⟨b1, 0, none⟩ ⟨b2, 0, none⟩ v0 v1 n _ c1.cell c1.frozen c2.cell c2.frozen hne).mono ?_
  rintro e u' w'' ⟨rfl, rfl, rfl⟩
  have k1 : CB ((W.setCell ⟨b1, 0, none⟩ (.slice none 0 0)).setCell ⟨b2, 0, none⟩ (.int .i64 n)).drew b1 62 (.slice none 0 0) := ((c1.set _).other ⟨b2, 0, none⟩ _ (Ne.symm hne))
  have k2 : CB ((W.setCell ⟨b1, 0, none⟩ (.slice none 0 0)).setCell ⟨b2, 0, none⟩ (.int .i64 n)).drew b2 53 (.int .i64 n) := (c2.other ⟨b1, 0, none⟩ _ hne).set _
  exact ⟨_, results_cells h2 h3 k1 k2, hR⟩
theorem below_wrong {w W : World} {B b1 b2 : Nat} (H : Below B w W) (h1 : B ≤ b1) (h2 : B ≤ b2) (u v : Value) : Below B w ((W.setCell ⟨b1, 0, none⟩ u).setCell ⟨b2, 0, none⟩ v).drew :=
  ((H.setCell (p := ⟨b1, 0, none⟩) h1 _).setCell (p := ⟨b2, 0, none⟩) h2 _).drew

theorem cb_three (w : World) (a : Obj) (u v : Value) : CB (((w.alloc a).alloc (.cells #[u] 62)).alloc (.cells #[v] 53)) (w.heap.size + 1) 62 u ∧ CB (((w.alloc a).alloc (.cells #[u] 62)).alloc (.cells #[v] 53)) (w.heap.size + 1 + 1) 53 v := by
  constructor
  · have h := heap_alloc_new (w.alloc a) (.cells #[u] 62)
    rw [show (w.alloc a).heap.size = w.heap.size + 1 by simp] at h
    exact (Lib.alloc_old _ _ _ (by simp)).trans h
  · have h := heap_alloc_new ((w.alloc a).alloc (.cells #[u] 62)) (.cells #[v] 53)
    rwa [show ((w.alloc a).alloc (.cells #[u] 62)).heap.size = w.heap.size + 1 + 1 by simp] at h
theorem below_three (w : World) (a b c : Obj) : Below w.heap.size w (((w.alloc a).alloc b).alloc c) := by
  repeat first | exact Below.refl _ _ | refine chain_alloc ?_ _

set_option maxHeartbeats 2000000 in
theorem look_form (c h x : Int) (A : Option Addr) (cA n : Nat) (ls : List Ly) (w : World) (hx : Rl w A ls) (ln : n = ls.length) (hn : n ≤ 1000) (hf : formB ⟨c, h, x, ls⟩ = false) :
    Calls Try.prog 24 #[.agg #[.int .i64 c, .int .i64 h, .int .i64 x, .slice A n cA]] w (LookTo ⟨c, h, x, ls⟩ w) := by
  have hmf : ∀ (fn : Fn) (first cap : Array Value) (w : World), (Instr.makeFunc fn first cap).run Try.prog w = .ok (.func fn first cap) w := fun _ _ _ _ => rfl
  have HX := Lib.hid hx; have LX := Lib.hid ln; have HF := Lib.hid hf
  clear hx ln hf
  go_enter_defers Try.func24, Try.ntmps24
  go_wp2_with fail
  refine (form_any c h x A cA n ls _ (HX.out.below (below_three w _ _ _)) LX.out hn).mono ?_
  rintro e w1 ⟨rfl, hb⟩
  rw [HF.out]
  obtain ⟨k1, k2⟩ := cb_three w (.cells #[.int .i64 c, .int .i64 h, .int .i64 x, .slice A n cA] 26) (.slice none 0 0) (.int .i64 0)
  have K1 := Lib.hid (k1.below hb); have K2 := Lib.hid (k2.below hb)
  have HB := Lib.hid (chain (below_three w _ _ _) hb)
  clear hb k1 k2
  go_wp2_with fail
  refine (must_no 12 _).mono ?_
  rintro e w' ⟨rfl, rfl⟩
  go_wp2_with fail
  exact leave_wrong 12 rfl rfl K1.out K2.out (by omega) (look_bad (err_form HF.out) (by decide) (below_wrong HB.out (by omega) (by omega) _ _))

set_option maxHeartbeats 2000000 in
theorem look_arg (c h x : Int) (A : Option Addr) (cA n : Nat) (ls : List Ly) (w : World) (hx : Rl w A ls) (ln : n = ls.length) (hn : n ≤ 1000) (hf : formB ⟨c, h, x, ls⟩ = true) (hr : rightB c h x = false) :
    Calls Try.prog 24 #[.agg #[.int .i64 c, .int .i64 h, .int .i64 x, .slice A n cA]] w (LookTo ⟨c, h, x, ls⟩ w) := by
  have hmf : ∀ (fn : Fn) (first cap : Array Value) (w : World), (Instr.makeFunc fn first cap).run Try.prog w = .ok (.func fn first cap) w := fun _ _ _ _ => rfl
  have HX := Lib.hid hx; have LX := Lib.hid ln; have HF := Lib.hid hf; have HR := Lib.hid hr
  clear hx ln hf hr
  go_enter_defers Try.func24, Try.ntmps24
  go_wp2_with fail
  refine (form_any c h x A cA n ls _ (HX.out.below (below_three w _ _ _)) LX.out hn).mono ?_
  rintro e w1 ⟨rfl, hb⟩
  rw [HF.out]
  obtain ⟨k1, k2⟩ := cb_three w (.cells #[.int .i64 c, .int .i64 h, .int .i64 x, .slice A n cA] 26) (.slice none 0 0) (.int .i64 0)
  have K1 := Lib.hid (k1.below hb); have K2 := Lib.hid (k2.below hb)
  have HB := Lib.hid (chain (below_three w _ _ _) hb)
  have hN := (((NB.new w c h x (.slice A n cA)).alloc (.cells #[.slice none 0 0] 62)).alloc (.cells #[.int .i64 0] 53)).below hb
  obtain ⟨n0, n1, n2, n3⟩ := hN.cells
  clear hb k1 k2 hN
  go_wp2_with fail
  refine (must_yes 12 _).mono ?_
  rintro e w' ⟨rfl, rfl⟩
  go_wp2_with fail
  refine (right_any c h x _).mono ?_
  rintro e w2 ⟨rfl, hb⟩
  rw [HR.out]
  have J1 := Lib.hid (K1.out.below hb); have J2 := Lib.hid (K2.out.below hb)
  have HC := Lib.hid (chain HB.out hb)
  clear hb K1 K2 HB n0 n1 n2 n3
  go_wp2_with fail
  refine (must_no 1 _).mono ?_
  rintro e w' ⟨rfl, rfl⟩
  go_wp2_with fail
  exact leave_wrong 1 rfl rfl J1.out J2.out (by omega) (look_bad (err_arg HF.out HR.out) (by decide) (below_wrong HC.out (by omega) (by omega) _ _))

end Go.Proofs.Ytklgjhldebdegaa
