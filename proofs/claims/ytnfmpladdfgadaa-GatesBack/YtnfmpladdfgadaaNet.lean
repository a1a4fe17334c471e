/-
  Networks, and which have a form: apart from any program.
-/
import Derived.WalkKit
namespace Go.Proofs.Ytnfmpladdfgadaa

structure Ly where
  k : Int
  o : Int
  s : Int
  t : Int
structure Nt where
  c : Int
  h : Int
  x : Int
  ls : List Ly

def winB (n : Int) : Bool := decide (0 ≤ n) && decide (n ≤ 999999)
def nums (l : Ly) : List Int := if l.k = 1 then [l.o, l.s, l.t] else if l.k = 3 then [l.s] else if l.k = 4 then [l.o] else []
def offs (k : Int) : List Nat := if k = 1 then [1, 2, 3] else if k = 3 then [2] else if k = 4 then [1] else []
def restB (l : Ly) : Bool := if l.k = 1 then true else if l.k = 3 then l.o == 0 && l.t == 0 else if l.k = 4 then l.s == 0 && l.t == 0 else l.o == 0 && l.s == 0 && l.t == 0
def kindB (k : Int) : Bool := decide (1 ≤ k) && decide (k ≤ 4)
def lyB (l : Ly) : Bool := kindB l.k && (nums l).all winB && restB l
def formB (n : Nt) : Bool := [n.c, n.h, n.x].all winB && decide (n.ls.length ≤ 8) && n.ls.all lyB

theorem win_parts {n : Int} (h : winB n = true) : 0 ≤ n ∧ n ≤ 999999 := by
  unfold winB at h; rw [Bool.and_eq_true, decide_eq_true_eq, decide_eq_true_eq] at h; exact h
theorem win_mk {n : Int} (h0 : 0 ≤ n) (h1 : n ≤ 999999) : winB n = true := by
  unfold winB; rw [Bool.and_eq_true, decide_eq_true_eq, decide_eq_true_eq]; exact ⟨h0, h1⟩
theorem form_parts {n : Nt} (h : formB n = true) : [n.c, n.h, n.x].all winB = true ∧ n.ls.length ≤ 8 ∧ n.ls.all lyB = true := by
  unfold formB at h
  rw [Bool.and_eq_true, Bool.and_eq_true, decide_eq_true_eq] at h
  exact ⟨h.1.1, h.1.2, h.2⟩
theorem form_mk {n : Nt} (h1 : [n.c, n.h, n.x].all winB = true) (h2 : n.ls.length ≤ 8) (h3 : n.ls.all lyB = true) : formB n = true := by
  unfold formB; rw [h1, h3, decide_eq_true h2]; rfl
theorem kind_cases {k : Int} (h : kindB k = true) : k = 1 ∨ k = 2 ∨ k = 3 ∨ k = 4 := by
  unfold kindB at h; rw [Bool.and_eq_true, decide_eq_true_eq, decide_eq_true_eq] at h; omega
theorem ly_kind {l : Ly} (h : lyB l = true) : l.k = 1 ∨ l.k = 2 ∨ l.k = 3 ∨ l.k = 4 := by
  unfold lyB at h; rw [Bool.and_eq_true, Bool.and_eq_true] at h; exact kind_cases h.1.1

end Go.Proofs.Ytnfmpladdfgadaa
