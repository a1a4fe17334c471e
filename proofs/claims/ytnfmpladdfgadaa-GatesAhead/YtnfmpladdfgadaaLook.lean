/-
  What look answers of a network: what is known of its layers, or what is wrong.
-/
import Derived.Test.YtnfmpladdfgadaaPlace2
import Derived.Test.YtnfmpladdfgadaaCatch
import Derived.Test.YtnfmpladdfgadaaFit
namespace Go.Proofs.Ytnfmpladdfgadaa
open Go.RowKit

theorem err_form {N : Nt} (h : formB N = false) : errN N = 12 := by unfold errN; rw [if_pos h]
theorem err_arg {N : Nt} (h : formB N = true) (r : N.s.r = false) : errN N = 1 := by
  unfold errN; rw [if_neg (by rw [h]; decide), if_pos r]
theorem err_shape {N : Nt} (h : formB N = true) (r : N.s.r = true) (f : fitL N.s N.ls = false) : errN N = 21 := by
  unfold errN; rw [if_neg (by rw [h]; decide), if_neg (by rw [r]; decide), if_pos f]
theorem err_full {N : Nt} (h : formB N = true) (r : N.s.r = true) (f : fitL N.s N.ls = true) (g : ¬ (sumW N.s N.ls ≤ 512 ∧ sumP N.s N.ls ≤ 512)) : errN N = 5 := by
  unfold errN; rw [if_neg (by rw [h]; decide), if_neg (by rw [r]; decide), if_neg (by rw [f]; decide), if_neg g]
theorem err_ok {N : Nt} (h : formB N = true) (r : N.s.r = true) (f : fitL N.s N.ls = true) (g : sumW N.s N.ls ≤ 512 ∧ sumP N.s N.ls ≤ 512) : errN N = 0 := by
  unfold errN; rw [if_neg (by rw [h]; decide), if_neg (by rw [r]; decide), if_neg (by rw [f]; decide), if_pos g]
theorem kn_wrong {N : Nt} (h : errN N ≠ 0) : knN N = [] := if_neg h
theorem kn_ok0 {N : Nt} (h : errN N = 0) : knN N = knL N.s 0 N.ls := if_pos h

def LookTo (N : Nt) (w : World) (e : Ending) (w' : World) : Prop :=
  ∃ (A : Option Addr) (k n : Nat), e = .returned (.tuple #[.slice A n k, .int .i64 (errN N)]) ∧ n = (knN N).length ∧ Rk w' A (knN N) ∧ Below w.heap.size w w'
theorem look_bad {N : Nt} {w w' : World} {n : Int} (h : errN N = n) (h0 : n ≠ 0) (hb : Below w.heap.size w w') : LookTo N w (.returned (.tuple #[.slice none 0 0, .int .i64 n])) w' := by
  subst h
  rw [LookTo, kn_wrong h0]
  exact ⟨none, 0, 0, rfl, rfl, Rg.nil _ _ _, hb⟩

/-- A variable of one cell. -/
def CB (w : World) (b T : Nat) (v : Value) : Prop := w.heap[b]? = some (.cells #[v] T (0, 0))
theorem CB.lt {w : World} {b T : Nat} {v : Value} (H : CB w b T v) : b < w.heap.size := (Array.getElem?_eq_some_iff.1 H).1
theorem CB.cell {w : World} {b T : Nat} {v : Value} (H : CB w b T v) : w.cell? ⟨b, 0, none⟩ = some v := by rw [Lib.cell_of_heap H]; rfl
theorem CB.frozen {w : World} {b T : Nat} {v : Value} (H : CB w b T v) : w.frozen? ⟨b, 0, none⟩ = false := Lib.frozen_of_heap H 0
theorem CB.below {w w' : World} {b T : Nat} {v : Value} (H : CB w b T v) (hb : Below w.heap.size w w') : CB w' b T v := (hb.block b H.lt).trans H
theorem CB.set {w : World} {b T : Nat} {v : Value} (H : CB w b T v) (u : Value) : CB (w.setCell ⟨b, 0, none⟩ u) b T u := Lib.heap_setCell_same (i := 0) H u
theorem CB.other {w : World} {b T : Nat} {v : Value} (H : CB w b T v) (a : Addr) (u : Value) (h : b ≠ a.block) : CB (w.setCell a u) b T v := (Below.heap_setCell w a u b h).trans H
/-- A shape in a variable. -/
def SB (w : World) (b : Nat) (s : Sh) : Prop := w.heap[b]? = some (.cells #[.int .i64 s.c, .int .i64 s.h, .int .i64 s.x] 23 (0, 0))
theorem SB.lt {w : World} {b : Nat} {s : Sh} (H : SB w b s) : b < w.heap.size := (Array.getElem?_eq_some_iff.1 H).1
theorem SB.below {w w' : World} {b : Nat} {s : Sh} (H : SB w b s) (hb : Below w.heap.size w w') : SB w' b s := (hb.block b H.lt).trans H
theorem SB.cells {w : World} {b : Nat} {s : Sh} (H : SB w b s) : w.cell? ⟨b, 0, none⟩ = some (.int .i64 s.c) ∧ w.cell? ⟨b, 1, none⟩ = some (.int .i64 s.h) ∧ w.cell? ⟨b, 2, none⟩ = some (.int .i64 s.x) := by
  refine ⟨?_, ?_, ?_⟩ <;> (rw [Lib.cell_of_heap H]; rfl)
theorem SB.frozen {w : World} {b : Nat} {s : Sh} (H : SB w b s) : ∀ i, w.frozen? ⟨b, i, none⟩ = false := fun i => Lib.frozen_of_heap H i
theorem SB.new (w : World) (s : Sh) : SB (w.alloc (.cells #[.int .i64 s.c, .int .i64 s.h, .int .i64 s.x] 23)) w.heap.size s := by
  show (w.heap.push _)[w.heap.size]? = _
  simp
theorem SB.set3 {w : World} {b : Nat} {s : Sh} (H : SB w b s) (p q r : Int) : SB (((w.setCell ⟨b, 0, none⟩ (.int .i64 p)).setCell ⟨b, 1, none⟩ (.int .i64 q)).setCell ⟨b, 2, none⟩ (.int .i64 r)) b ⟨p, q, r⟩ := by
  have h1 := Lib.heap_setCell_same (i := 0) H (.int .i64 p)
  have h2 := Lib.heap_setCell_same (i := 1) h1 (.int .i64 q)
  exact Lib.heap_setCell_same (i := 2) h2 (.int .i64 r)
theorem heap_set3 (w : World) (g b : Nat) (h : g ≠ b) (p q r : Value) : (((w.setCell ⟨b, 0, none⟩ p).setCell ⟨b, 1, none⟩ q).setCell ⟨b, 2, none⟩ r).heap[g]? = w.heap[g]? := by
  rw [Below.heap_setCell _ _ _ _ h, Below.heap_setCell _ _ _ _ h, Below.heap_setCell _ _ _ _ h]
theorem below_set3 {w0 w : World} {B b : Nat} (H : Below B w0 w) (hb : B ≤ b) (p q r : Value) : Below B w0 (((w.setCell ⟨b, 0, none⟩ p).setCell ⟨b, 1, none⟩ q).setCell ⟨b, 2, none⟩ r) :=
  ((H.setCell (p := ⟨b, 0, none⟩) hb _).setCell (p := ⟨b, 1, none⟩) hb _).setCell (p := ⟨b, 2, none⟩) hb _

/-! ### The door -/
theorem results_cells {tmps : Array Value} {b1 b2 : Nat} {v0 v1 : Value} {W : World} (h2 : tmps.getD 2 undef = .pointer (some ⟨b1, 0, none⟩)) (h3 : tmps.getD 3 undef = .pointer (some ⟨b2, 0, none⟩))
    (c1 : CB W b1 72 v0) (c2 : CB W b2 30 v1) : (results Try.f54 tmps).run Try.prog W = .ok (.tuple #[v0, v1]) W := by
  have h2' : tmps[2]?.getD undef = .pointer (some ⟨b1, 0, none⟩) := by simpa using h2
  have h3' : tmps[3]?.getD undef = .pointer (some ⟨b2, 0, none⟩) := by simpa using h3
  have d1 := c1.cell
  have d2 := c2.cell
  simp [results, Try.results54, go_sem, h2', h3', d1, d2]
theorem leave_fine {tmps : Array Value} {R : Ending → World → Prop} {b1 b2 : Nat} {v0 v1 : Value} {W : World} (h2 : tmps.getD 2 undef = .pointer (some ⟨b1, 0, none⟩)) (h3 : tmps.getD 3 undef = .pointer (some ⟨b2, 0, none⟩))
    (c1 : CB W b1 72 v0) (c2 : CB W b2 30 v1) (hR : R (.returned (.tuple #[v0, v1])) W) :
    Leaves Try.prog Try.f54 tmps R [{ target := .fn (.func 81) #[.pointer (some ⟨b1, 0, none⟩), .pointer (some ⟨b2, 0, none⟩)], args := #[] }] .returning W := by
  refine leaves_cons (f := 81) (args := #[.pointer (some ⟨b1, 0, none⟩), .pointer (some ⟨b2, 0, none⟩)]) (by simp) (by simp [go_sem]) ?_
  refine (catch_idle ⟨b1, 0, none⟩ ⟨b2, 0, none⟩ _).mono ?_
  rintro e u' w'' ⟨rfl, rfl, rfl⟩
  exact ⟨_, results_cells h2 h3 c1 c2, hR⟩
theorem leave_wrong {tmps : Array Value} {R : Ending → World → Prop} {b1 b2 : Nat} (n : Int) {v0 v1 : Value} {W : World} (h2 : tmps.getD 2 undef = .pointer (some ⟨b1, 0, none⟩)) (h3 : tmps.getD 3 undef = .pointer (some ⟨b2, 0, none⟩))
    (c1 : CB W b1 72 v0) (c2 : CB W b2 30 v1) (hne : b2 ≠ b1) (hR : R (.returned (.tuple #[.slice none 0 0, .int .i64 n])) ((W.setCell ⟨b1, 0, none⟩ (.slice none 0 0)).setCell ⟨b2, 0, none⟩ (.int .i64 n)).drew) :
    Leaves Try.prog Try.f54 tmps R [{ target := .fn (.func 81) #[.pointer (some ⟨b1, 0, none⟩), .pointer (some ⟨b2, 0, none⟩)], args := #[] }] (.panicking [{ v := .iface 30 (.int .i64 n), recovered := false }]) W := by
  refine leaves_cons (f := 81) (args := #[.pointer (some ⟨b1, 0, none⟩), .pointer (some ⟨b2, 0, none⟩)]) (by simp) (by simp [go_sem]) ?_
  refine (catch_panicking ⟨b1, 0, none⟩ ⟨b2, 0, none⟩ v0 v1 n _ c1.cell c1.frozen c2.cell c2.frozen hne).mono ?_
  rintro e u' w'' ⟨rfl, rfl, rfl⟩
  have k1 : CB ((W.setCell ⟨b1, 0, none⟩ (.slice none 0 0)).setCell ⟨b2, 0, none⟩ (.int .i64 n)).drew b1 72 (.slice none 0 0) := ((c1.set _).other ⟨b2, 0, none⟩ _ (Ne.symm hne))
  have k2 : CB ((W.setCell ⟨b1, 0, none⟩ (.slice none 0 0)).setCell ⟨b2, 0, none⟩ (.int .i64 n)).drew b2 30 (.int .i64 n) := (c2.other ⟨b1, 0, none⟩ _ hne).set _
  exact ⟨_, results_cells h2 h3 k1 k2, hR⟩
theorem below_wrong {w W : World} {B b1 b2 : Nat} (H : Below B w W) (h1 : B ≤ b1) (h2 : B ≤ b2) (u v : Value) : Below B w ((W.setCell ⟨b1, 0, none⟩ u).setCell ⟨b2, 0, none⟩ v).drew :=
  ((H.setCell (p := ⟨b1, 0, none⟩) h1 _).setCell (p := ⟨b2, 0, none⟩) h2 _).drew

theorem cb_three (w : World) (a : Obj) (u v : Value) : CB (((w.alloc a).alloc (.cells #[u] 72)).alloc (.cells #[v] 30)) (w.heap.size + 1) 72 u ∧ CB (((w.alloc a).alloc (.cells #[u] 72)).alloc (.cells #[v] 30)) (w.heap.size + 1 + 1) 30 v := by
  constructor
  · have h := heap_alloc_new (w.alloc a) (.cells #[u] 72)
    rw [show (w.alloc a).heap.size = w.heap.size + 1 by simp] at h
    exact (Lib.alloc_old _ _ _ (by simp)).trans h
  · have h := heap_alloc_new ((w.alloc a).alloc (.cells #[u] 72)) (.cells #[v] 30)
    rwa [show ((w.alloc a).alloc (.cells #[u] 72)).heap.size = w.heap.size + 1 + 1 by simp] at h
theorem below_three (w : World) (a b c : Obj) : Below w.heap.size w (((w.alloc a).alloc b).alloc c) := by
  repeat first | exact Below.refl _ _ | refine chain_alloc ?_ _

set_option maxHeartbeats 2000000 in
theorem look_form (c h x : Int) (A : Option Addr) (cA n : Nat) (ls : List Ly) (w : World) (hx : Rl w A ls) (ln : n = ls.length) (hn : n ≤ 1000) (hf : formB ⟨c, h, x, ls⟩ = false) :
    Calls Try.prog 54 #[.agg #[.int .i64 c, .int .i64 h, .int .i64 x, .slice A n cA]] w (LookTo ⟨c, h, x, ls⟩ w) := by
  have hmf : ∀ (fn : Fn) (first cap : Array Value) (w : World), (Instr.makeFunc fn first cap).run Try.prog w = .ok (.func fn first cap) w := fun _ _ _ _ => rfl
  have HX := Lib.hid hx; have LX := Lib.hid ln; have HF := Lib.hid hf
  clear hx ln hf
  go_enter_defers Try.func54, Try.ntmps54
  go_wp2_with fail
  refine (form_any c h x A cA n ls _ (HX.out.below (below_three w _ _ _)) LX.out hn).mono ?_
  rintro e w1 ⟨rfl, hb⟩
  rw [HF.out]
  obtain ⟨k1, k2⟩ := cb_three w (.cells #[.int .i64 c, .int .i64 h, .int .i64 x, .slice A n cA] 26) (.slice none 0 0) (.int .i64 0)
  have K1 := Lib.hid (k1.below hb); have K2 := Lib.hid (k2.below hb)
  have HB := Lib.hid (chain (below_three w _ _ _) hb)
  clear hb k1 k2
  go_wp2_with fail
  refine (must_no 12 _).mono ?_
  rintro e w' ⟨rfl, rfl⟩
  go_wp2_with fail
  exact leave_wrong 12 rfl rfl K1.out K2.out (by omega) (look_bad (err_form HF.out) (by decide) (below_wrong HB.out (by omega) (by omega) _ _))

set_option maxHeartbeats 2000000 in
theorem look_arg (c h x : Int) (A : Option Addr) (cA n : Nat) (ls : List Ly) (w : World) (hx : Rl w A ls) (ln : n = ls.length) (hn : n ≤ 1000) (hf : formB ⟨c, h, x, ls⟩ = true) (hr : rightB c h x = false) :
    Calls Try.prog 54 #[.agg #[.int .i64 c, .int .i64 h, .int .i64 x, .slice A n cA]] w (LookTo ⟨c, h, x, ls⟩ w) := by
  have hmf : ∀ (fn : Fn) (first cap : Array Value) (w : World), (Instr.makeFunc fn first cap).run Try.prog w = .ok (.func fn first cap) w := fun _ _ _ _ => rfl
  have HX := Lib.hid hx; have LX := Lib.hid ln; have HF := Lib.hid hf; have HR := Lib.hid hr
  clear hx ln hf hr
  go_enter_defers Try.func54, Try.ntmps54
  go_wp2_with fail
  refine (form_any c h x A cA n ls _ (HX.out.below (below_three w _ _ _)) LX.out hn).mono ?_
  rintro e w1 ⟨rfl, hb⟩
  rw [HF.out]
  obtain ⟨k1, k2⟩ := cb_three w (.cells #[.int .i64 c, .int .i64 h, .int .i64 x, .slice A n cA] 26) (.slice none 0 0) (.int .i64 0)
  have K1 := Lib.hid (k1.below hb); have K2 := Lib.hid (k2.below hb)
  have HB := Lib.hid (chain (below_three w _ _ _) hb)
  have hN := (((NB.new w c h x (.slice A n cA)).alloc (.cells #[.slice none 0 0] 72)).alloc (.cells #[.int .i64 0] 30)).below hb
  obtain ⟨n0, n1, n2, n3⟩ := hN.cells
  clear hb k1 k2 hN
  go_wp2_with fail
  refine (must_yes 12 _).mono ?_
  rintro e w' ⟨rfl, rfl⟩
  go_wp2_with fail
  refine (right_any c h x _).mono ?_
  rintro e w2 ⟨rfl, hb⟩
  rw [HR.out]
  have J1 := Lib.hid (K1.out.below hb); have J2 := Lib.hid (K2.out.below hb)
  have HC := Lib.hid (chain HB.out hb)
  clear hb K1 K2 HB n0 n1 n2 n3
  go_wp2_with fail
  refine (must_no 1 _).mono ?_
  rintro e w' ⟨rfl, rfl⟩
  go_wp2_with fail
  exact leave_wrong 1 rfl rfl J1.out J2.out (by omega) (look_bad (err_arg HF.out HR.out) (by decide) (below_wrong HC.out (by omega) (by omega) _ _))

end Go.Proofs.Ytnfmpladdfgadaa
