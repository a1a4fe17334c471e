/-
  Whether a network is too much; and the fixed question that every law asks first.
-/
import Derived.Test.YtmlflmlgjjjmfaaDoorParse
namespace Go.Proofs.YtmlflmlgjjjmfaaDoor
open Go.RowKit

set_option maxHeartbeats 1000000 in
theorem great_no (c h x : Int) (A : Option Addr) (cA n : Nat) (w : World) (hn : n ≤ 60) :
    Calls Tryd.prog 10 #[.agg #[.int .i64 c, .int .i64 h, .int .i64 x, .slice A n cA]] w fun e w' => e = .returned (.bool false) ∧ Below w.heap.size w w' := by
  have d0 : decide ((60 : Int) < (n : Int)) = false := by simp; omega
  have d1 : decide (60 < n) = false := by simp; omega
  go_enter Tryd.func10, Tryd.ntmps10
  go_wp2
  go_ret
  exact ⟨rfl, (Below.refl _ w).alloc (Nat.le_refl _) _⟩
set_option maxHeartbeats 1000000 in
theorem great_yes (c h x : Int) (A : Option Addr) (cA n : Nat) (w : World) (hn : 60 < n) :
    Calls Tryd.prog 10 #[.agg #[.int .i64 c, .int .i64 h, .int .i64 x, .slice A n cA]] w fun e w' => e = .returned (.bool true) ∧ Below w.heap.size w w' := by
  have d0 : decide ((60 : Int) < (n : Int)) = true := by simp; omega
  have d1 : decide (60 < n) = true := by simp; omega
  go_enter Tryd.func10, Tryd.ntmps10
  go_wp2
  go_ret
  exact ⟨rfl, (Below.refl _ w).alloc (Nat.le_refl _) _⟩

def ls0 : List Ly := [⟨1, 2, 3, 1⟩, ⟨2, 0, 0, 0⟩, ⟨3, 0, 2, 0⟩, ⟨4, 3, 0, 0⟩]
def s0 : ByteArray := ⟨#[105, 110, 32, 49, 32, 52, 32, 52, 10, 99, 111, 110, 118, 32, 50, 32, 51, 32, 49, 10, 115, 113, 117, 97, 114, 101, 10, 112, 111, 111, 108, 32, 50, 10, 100, 101, 110, 115, 101, 32, 51, 10]⟩
theorem parse0 : parseL (bl s0) = (⟨1, 4, 4, ls0⟩, 0, 0) := by kernel_rfl
theorem print0 : printL ⟨1, 4, 4, ls0⟩ = bl s0 := by kernel_rfl
theorem form0 : formB ⟨1, 4, 4, ls0⟩ = true := by kernel_rfl
theorem form1 : formB ⟨0, 0, 0, [⟨2, 1, 0, 0⟩]⟩ = false := by kernel_rfl
def s1 : ByteArray := ⟨#[105, 110, 32, 49, 32, 52, 32, 52, 10, 115, 113, 117, 97, 114, 101, 32, 50, 10]⟩
def s2 : ByteArray := ⟨#[105, 110, 32, 49, 32, 52, 32, 52, 10, 115, 113, 117, 97, 114, 101]⟩
theorem parse1 : parseL (bl s1) = (Nt.zero, 2, 12) := by kernel_rfl
theorem parse2 : parseL (bl s2) = (Nt.zero, 2, 12) := by kernel_rfl

/-- What a call of 'Parse' comes to whose answer is known. -/
theorem parse_is (s : ByteArray) (p : Nt × Nat × Int) (hp : parseL (bl s) = p) (w : World) (hs : s.size ≤ 100000) (hL : Laid w) : Calls Tryd.prog 11 #[.string s] w (ParseTo p w) := by
  subst hp; exact parse_any s w hs hL

theorem chain {w w1 w2 : World} {B : Nat} (h : Below B w w1) (hB : B ≤ w1.heap.size) (h2 : Below w1.heap.size w1 w2) : Below B w w2 := h.trans (h2.mono hB)
theorem Rl.alloc {w : World} {A : Option Addr} {ls : List Ly} (h : Rl w A ls) (o : Obj) : Rl (w.alloc o) A ls := h.below ((Below.refl _ w).alloc (Nat.le_refl _) o)
theorem Laid.alloc {w : World} (h : Laid w) (o : Obj) : Laid (w.alloc o) := h.below ((Below.refl _ w).alloc (Nat.le_refl _) o)

theorem rl0 (w : World) : Rl (w.alloc (.cells #[.int .i64 1, .int .i64 2, .int .i64 3, .int .i64 1, .int .i64 2, .int .i64 0, .int .i64 0, .int .i64 0, .int .i64 3, .int .i64 0, .int .i64 2, .int .i64 0, .int .i64 4, .int .i64 3, .int .i64 0, .int .i64 0] 42)) (some ⟨w.heap.size, 0, none⟩) ls0 := fun _ => by
  have hh := heap_alloc_new w (.cells #[.int .i64 1, .int .i64 2, .int .i64 3, .int .i64 1, .int .i64 2, .int .i64 0, .int .i64 0, .int .i64 0, .int .i64 3, .int .i64 0, .int .i64 2, .int .i64 0, .int .i64 4, .int .i64 3, .int .i64 0, .int .i64 0] 42)
  refine ⟨w.heap.size, 0, rfl, by simp, fun j hj => ?_⟩
  unfold LyAt
  rw [Lib.cell_of_heap hh, Lib.cell_of_heap hh, Lib.cell_of_heap hh, Lib.cell_of_heap hh]
  match j, hj with
  | 0, _ => exact ⟨rfl, rfl, rfl, rfl⟩
  | 1, _ => exact ⟨rfl, rfl, rfl, rfl⟩
  | 2, _ => exact ⟨rfl, rfl, rfl, rfl⟩
  | 3, _ => exact ⟨rfl, rfl, rfl, rfl⟩
theorem rl1 (w : World) : Rl (w.alloc (.cells #[.int .i64 2, .int .i64 1, .int .i64 0, .int .i64 0] 42)) (some ⟨w.heap.size, 0, none⟩) [⟨2, 1, 0, 0⟩] := fun _ => by
  have hh := heap_alloc_new w (.cells #[.int .i64 2, .int .i64 1, .int .i64 0, .int .i64 0] 42)
  refine ⟨w.heap.size, 0, rfl, by simp, fun j hj => ?_⟩
  unfold LyAt
  rw [Lib.cell_of_heap hh, Lib.cell_of_heap hh, Lib.cell_of_heap hh, Lib.cell_of_heap hh]
  match j, hj with
  | 0, _ => exact ⟨rfl, rfl, rfl, rfl⟩

/-- A network in a variable of its own. -/
def Nn (w : World) (b : Nat) (N : Nt) (A : Option Addr) (n k : Nat) : Prop := NB w b N.c N.h N.x (.slice A n k) ∧ n = N.ls.length ∧ Rl w A N.ls
theorem Nn.below {w w' : World} {b : Nat} {N : Nt} {A : Option Addr} {n k : Nat} (h : Nn w b N A n k) (hb : Below w.heap.size w w') : Nn w' b N A n k := ⟨h.1.below hb, h.2.1, h.2.2.below hb⟩
theorem Nn.alloc {w : World} {b : Nat} {N : Nt} {A : Option Addr} {n k : Nat} (h : Nn w b N A n k) (o : Obj) : Nn (w.alloc o) b N A n k := h.below ((Below.refl _ w).alloc (Nat.le_refl _) o)
theorem Nn.new {w : World} {N : Nt} {A : Option Addr} {n k : Nat} (hn : n = N.ls.length) (h : Rl w A N.ls) : Nn (w.alloc (.cells #[.int .i64 N.c, .int .i64 N.h, .int .i64 N.x, .slice A n k] 26)) w.heap.size N A n k := ⟨NB.new w _ _ _ _, hn, h.alloc _⟩
/-- What a law keeps of the world that it began in. -/
def Ctx (w wr : World) : Prop := Below w.heap.size w wr ∧ Laid wr
theorem Ctx.refl {w : World} (h : Laid w) : Ctx w w := ⟨Below.refl _ _, h⟩
theorem Ctx.alloc {w wr : World} (h : Ctx w wr) (o : Obj) : Ctx w (wr.alloc o) := ⟨h.1.alloc h.1.size o, h.2.alloc o⟩
theorem Ctx.below {w wr w' : World} (h : Ctx w wr) (hb : Below wr.heap.size wr w') : Ctx w w' := ⟨h.1.trans (hb.mono h.1.size), h.2.below hb⟩
theorem nn0 (w : World) : Nn ((w.alloc (.cells #[.int .i64 1, .int .i64 2, .int .i64 3, .int .i64 1, .int .i64 2, .int .i64 0, .int .i64 0, .int .i64 0, .int .i64 3, .int .i64 0, .int .i64 2, .int .i64 0, .int .i64 4, .int .i64 3, .int .i64 0, .int .i64 0] 42)).alloc (.cells #[.int .i64 1, .int .i64 4, .int .i64 4, .slice (some ⟨w.heap.size, 0, none⟩) 4 4] 26)) (w.heap.size + 1) ⟨1, 4, 4, ls0⟩ (some ⟨w.heap.size, 0, none⟩) 4 4 := by
  have := Nn.new (N := ⟨1, 4, 4, ls0⟩) (k := 4) rfl (rl0 w)
  rwa [show (w.alloc _).heap.size = w.heap.size + 1 by simp] at this

set_option maxHeartbeats 4000000 in
set_option maxRecDepth 100000 in
theorem head_any (w : World) (hL : Laid w) : Calls Tryd.prog 9 #[] w fun e w' => e = .returned (.bool true) ∧ Below w.heap.size w w' := by
  have HL := Lib.hid hL
  clear hL
  go_enter Tryd.func9, Tryd.ntmps9
  go_wp2_with fail
  refine (parse_is s0 _ parse0 _ (by decide) ((HL.out.alloc _).alloc _)).mono ?_
  rintro e w1 ⟨A, k, n, rfl, hn, hR, hb⟩
  obtain rfl : n = 4 := hn
  have S1 := Lib.hid ((((Ctx.refl HL.out).alloc _).alloc _).below hb)
  have N1 := Lib.hid ((nn0 w).below hb)
  have M1 := Lib.hid (Nn.new (N := ⟨1, 4, 4, ls0⟩) (n := 4) (k := k) rfl hR)
  clear hb hR HL
  go_wp2_with fail
  refine (parse_is s1 _ parse1 _ (by decide) (S1.out.alloc _).2).mono ?_
  rintro e w2 ⟨A2, k2, n2, rfl, hn, hR, hb⟩
  obtain rfl : n2 = 0 := hn
  have S2 := Lib.hid ((S1.out.alloc _).below hb)
  have N2 := Lib.hid ((N1.out.alloc _).below hb)
  have M2 := Lib.hid (M1.out.below hb)
  clear hb hR S1 N1 M1
  go_wp2_with fail
  refine (parse_is s2 _ parse2 _ (by decide) (S2.out.alloc _).2).mono ?_
  rintro e w3 ⟨A3, k3, n3, rfl, hn, hR, hb⟩
  obtain rfl : n3 = 0 := hn
  have S3 := Lib.hid ((S2.out.alloc _).below hb)
  have N3 := Lib.hid ((N2.out.alloc _).below hb)
  have M3 := Lib.hid ((M2.out.alloc _).below hb)
  clear hb hR S2 N2 M2
  go_wp2_with fail
  refine (parse_is ⟨#[]⟩ _ parse_nil _ (by decide) (S3.out.alloc _).2).mono ?_
  rintro e w4 ⟨A4, k4, n4, rfl, hn, hR, hb⟩
  obtain rfl : n4 = 0 := hn
  have S4 := Lib.hid ((S3.out.alloc _).below hb)
  have N4 := Lib.hid ((N3.out.alloc _).below hb)
  have M4 := Lib.hid ((M3.out.alloc _).below hb)
  obtain ⟨a0, a1, a2, a3⟩ := N4.out.1.cells
  have la := N4.out.1.lt
  clear hb hR S3 N3 M3
  simp only [Nt.zero]
  go_wp2_with fail
  refine (form_any 1 4 4 _ _ _ ls0 _ (N4.out.alloc _).2.2 rfl (by decide)).mono ?_
  rintro e w5 ⟨rfl, hb⟩
  rw [form0]
  have S5 := Lib.hid ((S4.out.alloc _).below hb)
  have N5 := Lib.hid ((N4.out.alloc _).below hb)
  have M5 := Lib.hid ((M4.out.alloc _).below hb)
  clear hb S4 N4 M4 a0 a1 a2 a3 la
  obtain ⟨a0, a1, a2, a3⟩ := N5.out.1.cells
  have la := N5.out.1.lt
  go_wp2_with fail
  refine (print_any 1 4 4 _ _ _ ls0 _ N5.out.2.2 rfl (by decide) S5.out.2).mono ?_
  rintro e w6 ⟨rfl, hb⟩
  rw [print0, ba_bl]
  unfold s0
  have S6 := Lib.hid (S5.out.below hb)
  have N6 := Lib.hid (N5.out.below hb)
  have M6 := Lib.hid (M5.out.below hb)
  clear hb S5 N5 M5 a0 a1 a2 a3 la
  obtain ⟨a0, a1, a2, a3⟩ := N6.out.1.cells
  obtain ⟨b0, b1, b2, b3⟩ := M6.out.1.cells
  have la := N6.out.1.lt
  have lb := M6.out.1.lt
  go_wp2_with fail
  refine (same_any 1 4 4 _ _ _ _ _ _ ls0 ls0 _ M6.out.2.2 N6.out.2.2 rfl rfl (by decide) rfl).mono ?_
  rintro e w7 ⟨rfl, hb⟩
  have S7 := Lib.hid (S6.out.below hb)
  clear hb S6 N6 M6 a0 a1 a2 a3 la b0 b1 b2 b3 lb
  go_wp2_with fail
  refine (form_any 0 0 0 _ _ _ _ _ (rl1 w7) rfl (by decide)).mono ?_
  rintro e w8 ⟨rfl, hb⟩
  rw [form1]
  have S8 := Lib.hid ((S7.out.alloc _).below hb)
  clear hb S7
  go_wp2_with fail
  go_ret
  exact ⟨rfl, S8.out.1⟩

end Go.Proofs.YtmlflmlgjjjmfaaDoor
