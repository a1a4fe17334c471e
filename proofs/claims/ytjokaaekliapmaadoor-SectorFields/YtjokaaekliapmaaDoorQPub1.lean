/-
  What package sector answers: within, Right, noughts, Clone; the table of widths.
-/
import Derived.Test.YtjokaaekliapmaaDoorQRef3
import Derived.Stop.BytesEq
import Derived.Lib.SmallJoins
import Derived.Laws.CopyRow
namespace Go.Proofs.YtjokaaekliapmaaDoor
open Go.RowKit

set_option maxHeartbeats 1000000 in
theorem within16 (n a b : Int) (w : World) : Calls Tryd.prog 21 #[.int .i64 n, .int .i64 a, .int .i64 b] w fun e w' => e = .returned (.bool (withinI n a b)) ∧ Below w.heap.size w w' := by
  by_cases h1 : a ≤ n
  · have d1 : decide (a ≤ n) = true := decide_eq_true h1
    by_cases h2 : n ≤ b
    · have d2 : decide (n ≤ b) = true := decide_eq_true h2
      have E : Hid (withinI n a b = true) := by show _ = _; unfold withinI; rw [d1, d2]; rfl
      clear h1 h2
      go_enter Tryd.func21, Tryd.ntmps21
      go_wp2_with fail
      go_ret
      exact ⟨by rw [E.out]; rfl, Below.refl _ _⟩
    · have d2 : decide (n ≤ b) = false := decide_eq_false h2
      have E : Hid (withinI n a b = false) := by show _ = _; unfold withinI; rw [d1, d2]; rfl
      clear h1 h2
      go_enter Tryd.func21, Tryd.ntmps21
      go_wp2_with fail
      go_ret
      exact ⟨by rw [E.out]; rfl, Below.refl _ _⟩
  · have d1 : decide (a ≤ n) = false := decide_eq_false h1
    have E : Hid (withinI n a b = false) := by show _ = _; unfold withinI; rw [d1]; rfl
    clear h1
    go_enter Tryd.func21, Tryd.ntmps21
    go_wp2_with fail
    go_ret
    exact ⟨by rw [E.out]; rfl, Below.refl _ _⟩


set_option maxHeartbeats 4000000 in
set_option maxRecDepth 100000 in
theorem right16 (s : Sec) (A : Option Addr) (n c : Nat) (w : World) (hn : n = s.b.length) : Calls Tryd.prog 12 #[secv s A n c] w fun e w' => e = .returned (.bool (rightQ s)) ∧ Below w.heap.size w w' := by
  obtain ⟨g, p, t, k, b⟩ := s
  have RQ : Hid (rightQ ⟨g, p, t, k, b⟩ = (withinI g 1 281474976710656 && withinI p 0 4096 && withinI t 1 32 && withinI k 0 1000 && withinI (n : Int) 1 50)) := by show _ = _; rw [hn]; rfl
  obtain ⟨r, hr⟩ : ∃ r, r = rightQ ⟨g, p, t, k, b⟩ := ⟨_, rfl⟩
  rw [← hr] at RQ ⊢
  unfold secv
  dsimp only
  clear hn hr
  go_enter Tryd.func12, Tryd.ntmps12
  go_wp2_with fail
  have hb := chain_alloc (Below.refl _ w) (.cells #[.int .i64 g, .int .i64 p, .int .i64 t, .int .i64 k, .slice A n c] 24)
  have NB : (w.alloc (.cells #[.int .i64 g, .int .i64 p, .int .i64 t, .int .i64 k, .slice A n c] 24)).heap[w.heap.size]? = some (.cells #[.int .i64 g, .int .i64 p, .int .i64 t, .int .i64 k, .slice A n c] 24 (0, 0)) := heap_alloc_new w _
  have zl : w.heap.size < (w.alloc (.cells #[.int .i64 g, .int .i64 p, .int .i64 t, .int .i64 k, .slice A n c] 24)).heap.size := by simp
  obtain ⟨z, hz⟩ : ∃ z, z = w.heap.size := ⟨_, rfl⟩
  rw [← hz] at NB zl ⊢
  generalize w.alloc (.cells #[.int .i64 g, .int .i64 p, .int .i64 t, .int .i64 k, .slice A n c] 24) = w1 at hb NB zl ⊢
  have B1 := Lib.hid hb
  have NX := Lib.hid NB
  have ZL := Lib.hid zl
  clear hb NB zl hz
  obtain ⟨x0, hx0⟩ : ∃ x, x = withinI g 1 281474976710656 := ⟨_, rfl⟩
  refine (within16 g 1 281474976710656 _).mono ?_
  rw [← hx0] at RQ ⊢
  clear hx0
  rintro e w2 ⟨rfl, hb⟩
  have B2 := Lib.hid (chain B1.out hb)
  replace NX := Lib.hid ((hb.block z ZL.out).trans NX.out)
  replace ZL := Lib.hid (Nat.lt_of_lt_of_le ZL.out hb.size)
  clear hb B1
  rcases x0 with _ | _
  · have E : Hid (r = false) := by show _ = _; rw [RQ.out]; simp
    clear RQ
    go_wp2_with fail
    go_ret
    exact ⟨by rw [E.out]; rfl, B2.out⟩
  have c1 : w2.cell? ⟨z, 1, none⟩ = some (.int .i64 p) := by rw [Lib.cell_of_heap NX.out]; rfl
  have zi1 := ZL.out
  go_wp2_with fail
  clear c1 zi1
  obtain ⟨x1, hx1⟩ : ∃ x, x = withinI p 0 4096 := ⟨_, rfl⟩
  refine (within16 p 0 4096 _).mono ?_
  rw [← hx1] at RQ ⊢
  clear hx1
  rintro e w3 ⟨rfl, hb⟩
  have B3 := Lib.hid (chain B2.out hb)
  replace NX := Lib.hid ((hb.block z ZL.out).trans NX.out)
  replace ZL := Lib.hid (Nat.lt_of_lt_of_le ZL.out hb.size)
  clear hb B2
  rcases x1 with _ | _
  · have E : Hid (r = false) := by show _ = _; rw [RQ.out]; simp
    clear RQ
    go_wp2_with fail
    go_ret
    exact ⟨by rw [E.out]; rfl, B3.out⟩
  have c2 : w3.cell? ⟨z, 2, none⟩ = some (.int .i64 t) := by rw [Lib.cell_of_heap NX.out]; rfl
  have zi2 := ZL.out
  go_wp2_with fail
  clear c2 zi2
  obtain ⟨x2, hx2⟩ : ∃ x, x = withinI t 1 32 := ⟨_, rfl⟩
  refine (within16 t 1 32 _).mono ?_
  rw [← hx2] at RQ ⊢
  clear hx2
  rintro e w4 ⟨rfl, hb⟩
  have B4 := Lib.hid (chain B3.out hb)
  replace NX := Lib.hid ((hb.block z ZL.out).trans NX.out)
  replace ZL := Lib.hid (Nat.lt_of_lt_of_le ZL.out hb.size)
  clear hb B3
  rcases x2 with _ | _
  · have E : Hid (r = false) := by show _ = _; rw [RQ.out]; simp
    clear RQ
    go_wp2_with fail
    go_ret
    exact ⟨by rw [E.out]; rfl, B4.out⟩
  have c3 : w4.cell? ⟨z, 3, none⟩ = some (.int .i64 k) := by rw [Lib.cell_of_heap NX.out]; rfl
  have zi3 := ZL.out
  go_wp2_with fail
  clear c3 zi3
  obtain ⟨x3, hx3⟩ : ∃ x, x = withinI k 0 1000 := ⟨_, rfl⟩
  refine (within16 k 0 1000 _).mono ?_
  rw [← hx3] at RQ ⊢
  clear hx3
  rintro e w5 ⟨rfl, hb⟩
  have B5 := Lib.hid (chain B4.out hb)
  replace NX := Lib.hid ((hb.block z ZL.out).trans NX.out)
  replace ZL := Lib.hid (Nat.lt_of_lt_of_le ZL.out hb.size)
  clear hb B4
  rcases x3 with _ | _
  · have E : Hid (r = false) := by show _ = _; rw [RQ.out]; simp
    clear RQ
    go_wp2_with fail
    go_ret
    exact ⟨by rw [E.out]; rfl, B5.out⟩
  have c4 : w5.cell? ⟨z, 4, none⟩ = some (.slice A n c) := by rw [Lib.cell_of_heap NX.out]; rfl
  have zi4 := ZL.out
  go_wp2_with fail
  clear c4 zi4
  obtain ⟨x4, hx4⟩ : ∃ x, x = withinI (n : Int) 1 50 := ⟨_, rfl⟩
  refine (within16 (n : Int) 1 50 _).mono ?_
  rw [← hx4] at RQ ⊢
  clear hx4
  rintro e w6 ⟨rfl, hb⟩
  have B6 := Lib.hid (chain B5.out hb)
  replace NX := Lib.hid ((hb.block z ZL.out).trans NX.out)
  replace ZL := Lib.hid (Nat.lt_of_lt_of_le ZL.out hb.size)
  clear hb B5
  rcases x4 with _ | _
  · have E : Hid (r = false) := by show _ = _; rw [RQ.out]; simp
    clear RQ
    go_wp2_with fail
    go_ret
    exact ⟨by rw [E.out]; rfl, B6.out⟩
  have E : Hid (r = true) := by show _ = _; rw [RQ.out]; simp
  clear RQ
  go_wp2_with fail
  go_ret
  exact ⟨by rw [E.out]; rfl, B6.out⟩

/-! ### The table of widths -/
def wideName : String := "symbolon/sector.wide"
def Wd (w : World) : Prop := w.var? Tryd.prog wideName = some #[.int .i64 8, .int .i64 2, .int .i64 1, .int .i64 2, .int .i64 1]
theorem wide_global : Tryd.prog.globalNamed wideName = some 0 := by kernel_rfl
theorem Wd.below {w w' : World} (h : Wd w) (hb : Below w.heap.size w w') : Wd w' := Joins.var_stays wide_global h hb (Nat.le_refl _)
def wdN (i : Nat) : Nat := [8, 2, 1, 2, 1].getD i 0
theorem Wd.cell {w : World} (h : Wd w) {i : Nat} (hi : i < 5) : w.cell? ⟨0, i, none⟩ = some (.int .i64 (wdN i : Nat)) := by
  rw [World.var?_cell wide_global h]
  match i, hi with
  | 0, _ => rfl
  | 1, _ => rfl
  | 2, _ => rfl
  | 3, _ => rfl
  | 4, _ => rfl

theorem rg_src {w : World} {bA oA : Nat} {l : List UInt8} (hr : Rg bcells w (some ⟨bA, oA, none⟩) l) : ∀ j u, (l.flatMap bcells)[j]? = some u → w.cell? ((⟨bA, oA, none⟩ : Addr).add j) = some u := fun j u hu => by
  have hj : j < l.length := by
    have := (List.getElem?_eq_some_iff.1 hu).1
    rw [flat_len bcells_len] at this; omega
  obtain ⟨b, off, e, _, hc⟩ := hr (by omega)
  have e := Option.some.inj e
  simp only [Addr.mk.injEq] at e
  obtain ⟨rfl, rfl, _⟩ := e
  rw [show (⟨bA, oA, none⟩ : Addr).add j = ⟨bA, oA + j, none⟩ by unfold Addr.add; split <;> simp_all]
  exact hc j u hu
theorem below_setRow16 {w w1 : World} {g : Nat} (h : Below w.heap.size w w1) (hg : w.heap.size ≤ g) (C : Array Value) : Below w.heap.size w (w1.setRow g C) := h.trans ⟨rfl, rfl, rfl, by simp, fun k hk => setRow_other w1 g k _ (by omega)⟩
theorem flat_map16 : ∀ l : List UInt8, l.flatMap bcells = l.map Extern.Stop.cell
  | [] => rfl
  | x :: l => by rw [List.flatMap_cons, List.map_cons, flat_map16 l]; rfl
theorem lit_drop (n : Nat) : (#[.int .u8 0, .int .u8 0, .int .u8 0, .int .u8 0, .int .u8 0, .int .u8 0, .int .u8 0, .int .u8 0, .int .u8 0, .int .u8 0, .int .u8 0, .int .u8 0, .int .u8 0, .int .u8 0, .int .u8 0, .int .u8 0, .int .u8 0, .int .u8 0, .int .u8 0, .int .u8 0, .int .u8 0, .int .u8 0, .int .u8 0, .int .u8 0, .int .u8 0, .int .u8 0, .int .u8 0, .int .u8 0, .int .u8 0, .int .u8 0, .int .u8 0, .int .u8 0, .int .u8 0, .int .u8 0, .int .u8 0, .int .u8 0, .int .u8 0, .int .u8 0, .int .u8 0, .int .u8 0, .int .u8 0, .int .u8 0, .int .u8 0, .int .u8 0, .int .u8 0, .int .u8 0, .int .u8 0, .int .u8 0, .int .u8 0, .int .u8 0] : Array Value).toList.drop n = (List.replicate (50 - n) (0 : UInt8)).map Extern.Stop.cell := by
  rw [show (#[.int .u8 0, .int .u8 0, .int .u8 0, .int .u8 0, .int .u8 0, .int .u8 0, .int .u8 0, .int .u8 0, .int .u8 0, .int .u8 0, .int .u8 0, .int .u8 0, .int .u8 0, .int .u8 0, .int .u8 0, .int .u8 0, .int .u8 0, .int .u8 0, .int .u8 0, .int .u8 0, .int .u8 0, .int .u8 0, .int .u8 0, .int .u8 0, .int .u8 0, .int .u8 0, .int .u8 0, .int .u8 0, .int .u8 0, .int .u8 0, .int .u8 0, .int .u8 0, .int .u8 0, .int .u8 0, .int .u8 0, .int .u8 0, .int .u8 0, .int .u8 0, .int .u8 0, .int .u8 0, .int .u8 0, .int .u8 0, .int .u8 0, .int .u8 0, .int .u8 0, .int .u8 0, .int .u8 0, .int .u8 0, .int .u8 0, .int .u8 0] : Array Value).toList = List.replicate 50 (Value.int .u8 0) by kernel_rfl, List.drop_replicate, List.map_replicate]; rfl
theorem all_same {l : List UInt8} (n : Nat) (hn : n = l.length) (h1 : n ≤ 50) : ((l ++ List.replicate (50 - n) 0) == List.replicate 50 0) = (l.all fun b => b == 0) := by
  rw [Bool.eq_iff_iff, List.all_eq_true, beq_iff_eq, List.eq_replicate_iff]
  constructor
  · intro h b hb
    have := h.2 b (List.mem_append_left _ hb)
    simpa using this
  · intro h
    refine ⟨by rw [List.length_append, List.length_replicate]; omega, fun b hb => ?_⟩
    rcases List.mem_append.1 hb with hb | hb
    · simpa using h b hb
    · exact List.eq_of_mem_replicate hb
theorem bslice_nil (b o n c : Nat) (w : World) : (binOp .eql 22 (.slice (some ⟨b, o, none⟩) n c) (.slice none 0 0)).run Tryd.prog w = .ok (.bool false) w := by kernel_rfl

set_option maxHeartbeats 4000000 in
set_option maxRecDepth 100000 in
theorem clone16 (bA oA n c : Nat) (l : List UInt8) (w : World) (hr : Rg bcells w (some ⟨bA, oA, none⟩) l) (hn : n = l.length) (h1 : n ≤ 100000) :
    Calls Tryd.prog 19 #[.slice (some ⟨bA, oA, none⟩) n c] w fun e w' => ∃ A' c', e = .returned (.slice A' n c') ∧ OB16 w' w.heap.size A' n c' l ∧ Below w.heap.size w w' := by
  obtain ⟨A', c', w', run, h2, h3, _⟩ := copy16 (w := w.alloc (.cells #[] 5)) (w0 := w) (g := w.heap.size) (c := c) (heap_alloc_new w _) (hr.below (chain_alloc (Below.refl _ w) _)) hn h1 (Nat.le_refl _) (by simp)
  have hb := Lib.hid ((chain_alloc (Below.refl _ w) (.cells #[] 5)).trans h3)
  have hnil := bslice_nil bA oA n c
  have h2 := Lib.hid h2
  clear hr hn h1 h3
  go_enter Tryd.func19, Tryd.ntmps19
  go_wp2_with (at_builtin; first | (refine Lib.wpList_append_run _ rfl _ _ _ _ rfl _ _ rfl rfl _ _ run ?_))
  go_ret
  exact ⟨A', c', rfl, h2.out, hb.out⟩

set_option maxHeartbeats 4000000 in
set_option maxRecDepth 100000 in
theorem noughts16 (bA oA n c : Nat) (l : List UInt8) (w : World) (hr : Rg bcells w (some ⟨bA, oA, none⟩) l) (hn : n = l.length) (h1 : n ≤ 50) :
    Calls Tryd.prog 18 #[.slice (some ⟨bA, oA, none⟩) n c] w fun e w' => e = .returned (.bool (l.all fun b => b == 0)) ∧ Below w.heap.size w w' := by
  obtain ⟨i0, hi, hz0, hz1, hz2⟩ := info_parts Tryd.infoB
  have FL : (l.flatMap bcells).length = n := by rw [flat_len bcells_len, Nat.mul_one, hn]
  have N3 := heap_alloc_new w (.cells (#[.int .u8 0, .int .u8 0, .int .u8 0, .int .u8 0, .int .u8 0, .int .u8 0, .int .u8 0, .int .u8 0, .int .u8 0, .int .u8 0, .int .u8 0, .int .u8 0, .int .u8 0, .int .u8 0, .int .u8 0, .int .u8 0, .int .u8 0, .int .u8 0, .int .u8 0, .int .u8 0, .int .u8 0, .int .u8 0, .int .u8 0, .int .u8 0, .int .u8 0, .int .u8 0, .int .u8 0, .int .u8 0, .int .u8 0, .int .u8 0, .int .u8 0, .int .u8 0, .int .u8 0, .int .u8 0, .int .u8 0, .int .u8 0, .int .u8 0, .int .u8 0, .int .u8 0, .int .u8 0, .int .u8 0, .int .u8 0, .int .u8 0, .int .u8 0, .int .u8 0, .int .u8 0, .int .u8 0, .int .u8 0, .int .u8 0, .int .u8 0] : Array Value) 45)
  have hcp := run_copy_row (P := Tryd.prog) (w.alloc (.cells (#[.int .u8 0, .int .u8 0, .int .u8 0, .int .u8 0, .int .u8 0, .int .u8 0, .int .u8 0, .int .u8 0, .int .u8 0, .int .u8 0, .int .u8 0, .int .u8 0, .int .u8 0, .int .u8 0, .int .u8 0, .int .u8 0, .int .u8 0, .int .u8 0, .int .u8 0, .int .u8 0, .int .u8 0, .int .u8 0, .int .u8 0, .int .u8 0, .int .u8 0, .int .u8 0, .int .u8 0, .int .u8 0, .int .u8 0, .int .u8 0, .int .u8 0, .int .u8 0, .int .u8 0, .int .u8 0, .int .u8 0, .int .u8 0, .int .u8 0, .int .u8 0, .int .u8 0, .int .u8 0, .int .u8 0, .int .u8 0, .int .u8 0, .int .u8 0, .int .u8 0, .int .u8 0, .int .u8 0, .int .u8 0, .int .u8 0, .int .u8 0] : Array Value) 45)) 22 22 3 5 w.heap.size 0 50 50 ⟨bA, oA, none⟩ n c (#[.int .u8 0, .int .u8 0, .int .u8 0, .int .u8 0, .int .u8 0, .int .u8 0, .int .u8 0, .int .u8 0, .int .u8 0, .int .u8 0, .int .u8 0, .int .u8 0, .int .u8 0, .int .u8 0, .int .u8 0, .int .u8 0, .int .u8 0, .int .u8 0, .int .u8 0, .int .u8 0, .int .u8 0, .int .u8 0, .int .u8 0, .int .u8 0, .int .u8 0, .int .u8 0, .int .u8 0, .int .u8 0, .int .u8 0, .int .u8 0, .int .u8 0, .int .u8 0, .int .u8 0, .int .u8 0, .int .u8 0, .int .u8 0, .int .u8 0, .int .u8 0, .int .u8 0, .int .u8 0, .int .u8 0, .int .u8 0, .int .u8 0, .int .u8 0, .int .u8 0, .int .u8 0, .int .u8 0, .int .u8 0, .int .u8 0, .int .u8 0] : Array Value) 45 (l.flatMap bcells) Tryd.underlying22 (by rw [hi]; exact congrArg some hz1) N3 (by rw [FL]; exact (Nat.min_eq_left h1).symm) (rg_src (hr.below (chain_alloc (Below.refl _ w) _))) (by rw [FL]; simp; omega) (fun v hv => by
    obtain ⟨y, _, hy⟩ := List.mem_flatMap.1 hv
    exact bcells_one y v hy)
  have B2 := Lib.hid (below_setRow16 (chain_alloc (Below.refl _ w) (.cells (#[.int .u8 0, .int .u8 0, .int .u8 0, .int .u8 0, .int .u8 0, .int .u8 0, .int .u8 0, .int .u8 0, .int .u8 0, .int .u8 0, .int .u8 0, .int .u8 0, .int .u8 0, .int .u8 0, .int .u8 0, .int .u8 0, .int .u8 0, .int .u8 0, .int .u8 0, .int .u8 0, .int .u8 0, .int .u8 0, .int .u8 0, .int .u8 0, .int .u8 0, .int .u8 0, .int .u8 0, .int .u8 0, .int .u8 0, .int .u8 0, .int .u8 0, .int .u8 0, .int .u8 0, .int .u8 0, .int .u8 0, .int .u8 0, .int .u8 0, .int .u8 0, .int .u8 0, .int .u8 0, .int .u8 0, .int .u8 0, .int .u8 0, .int .u8 0, .int .u8 0, .int .u8 0, .int .u8 0, .int .u8 0, .int .u8 0, .int .u8 0] : Array Value) 45)) (Nat.le_refl w.heap.size) ((#[.int .u8 0, .int .u8 0, .int .u8 0, .int .u8 0, .int .u8 0, .int .u8 0, .int .u8 0, .int .u8 0, .int .u8 0, .int .u8 0, .int .u8 0, .int .u8 0, .int .u8 0, .int .u8 0, .int .u8 0, .int .u8 0, .int .u8 0, .int .u8 0, .int .u8 0, .int .u8 0, .int .u8 0, .int .u8 0, .int .u8 0, .int .u8 0, .int .u8 0, .int .u8 0, .int .u8 0, .int .u8 0, .int .u8 0, .int .u8 0, .int .u8 0, .int .u8 0, .int .u8 0, .int .u8 0, .int .u8 0, .int .u8 0, .int .u8 0, .int .u8 0, .int .u8 0, .int .u8 0, .int .u8 0, .int .u8 0, .int .u8 0, .int .u8 0, .int .u8 0, .int .u8 0, .int .u8 0, .int .u8 0, .int .u8 0, .int .u8 0] : Array Value).toList.take 0 ++ l.flatMap bcells ++ (#[.int .u8 0, .int .u8 0, .int .u8 0, .int .u8 0, .int .u8 0, .int .u8 0, .int .u8 0, .int .u8 0, .int .u8 0, .int .u8 0, .int .u8 0, .int .u8 0, .int .u8 0, .int .u8 0, .int .u8 0, .int .u8 0, .int .u8 0, .int .u8 0, .int .u8 0, .int .u8 0, .int .u8 0, .int .u8 0, .int .u8 0, .int .u8 0, .int .u8 0, .int .u8 0, .int .u8 0, .int .u8 0, .int .u8 0, .int .u8 0, .int .u8 0, .int .u8 0, .int .u8 0, .int .u8 0, .int .u8 0, .int .u8 0, .int .u8 0, .int .u8 0, .int .u8 0, .int .u8 0, .int .u8 0, .int .u8 0, .int .u8 0, .int .u8 0, .int .u8 0, .int .u8 0, .int .u8 0, .int .u8 0, .int .u8 0, .int .u8 0] : Array Value).toList.drop (0 + (l.flatMap bcells).length)).toArray)
  have G2 := setRow_heap _ w.heap.size (#[.int .u8 0, .int .u8 0, .int .u8 0, .int .u8 0, .int .u8 0, .int .u8 0, .int .u8 0, .int .u8 0, .int .u8 0, .int .u8 0, .int .u8 0, .int .u8 0, .int .u8 0, .int .u8 0, .int .u8 0, .int .u8 0, .int .u8 0, .int .u8 0, .int .u8 0, .int .u8 0, .int .u8 0, .int .u8 0, .int .u8 0, .int .u8 0, .int .u8 0, .int .u8 0, .int .u8 0, .int .u8 0, .int .u8 0, .int .u8 0, .int .u8 0, .int .u8 0, .int .u8 0, .int .u8 0, .int .u8 0, .int .u8 0, .int .u8 0, .int .u8 0, .int .u8 0, .int .u8 0, .int .u8 0, .int .u8 0, .int .u8 0, .int .u8 0, .int .u8 0, .int .u8 0, .int .u8 0, .int .u8 0, .int .u8 0, .int .u8 0] : Array Value) ((#[.int .u8 0, .int .u8 0, .int .u8 0, .int .u8 0, .int .u8 0, .int .u8 0, .int .u8 0, .int .u8 0, .int .u8 0, .int .u8 0, .int .u8 0, .int .u8 0, .int .u8 0, .int .u8 0, .int .u8 0, .int .u8 0, .int .u8 0, .int .u8 0, .int .u8 0, .int .u8 0, .int .u8 0, .int .u8 0, .int .u8 0, .int .u8 0, .int .u8 0, .int .u8 0, .int .u8 0, .int .u8 0, .int .u8 0, .int .u8 0, .int .u8 0, .int .u8 0, .int .u8 0, .int .u8 0, .int .u8 0, .int .u8 0, .int .u8 0, .int .u8 0, .int .u8 0, .int .u8 0, .int .u8 0, .int .u8 0, .int .u8 0, .int .u8 0, .int .u8 0, .int .u8 0, .int .u8 0, .int .u8 0, .int .u8 0, .int .u8 0] : Array Value).toList.take 0 ++ l.flatMap bcells ++ (#[.int .u8 0, .int .u8 0, .int .u8 0, .int .u8 0, .int .u8 0, .int .u8 0, .int .u8 0, .int .u8 0, .int .u8 0, .int .u8 0, .int .u8 0, .int .u8 0, .int .u8 0, .int .u8 0, .int .u8 0, .int .u8 0, .int .u8 0, .int .u8 0, .int .u8 0, .int .u8 0, .int .u8 0, .int .u8 0, .int .u8 0, .int .u8 0, .int .u8 0, .int .u8 0, .int .u8 0, .int .u8 0, .int .u8 0, .int .u8 0, .int .u8 0, .int .u8 0, .int .u8 0, .int .u8 0, .int .u8 0, .int .u8 0, .int .u8 0, .int .u8 0, .int .u8 0, .int .u8 0, .int .u8 0, .int .u8 0, .int .u8 0, .int .u8 0, .int .u8 0, .int .u8 0, .int .u8 0, .int .u8 0, .int .u8 0, .int .u8 0] : Array Value).toList.drop (0 + (l.flatMap bcells).length)).toArray 45 _ N3
  generalize (w.alloc (.cells (#[.int .u8 0, .int .u8 0, .int .u8 0, .int .u8 0, .int .u8 0, .int .u8 0, .int .u8 0, .int .u8 0, .int .u8 0, .int .u8 0, .int .u8 0, .int .u8 0, .int .u8 0, .int .u8 0, .int .u8 0, .int .u8 0, .int .u8 0, .int .u8 0, .int .u8 0, .int .u8 0, .int .u8 0, .int .u8 0, .int .u8 0, .int .u8 0, .int .u8 0, .int .u8 0, .int .u8 0, .int .u8 0, .int .u8 0, .int .u8 0, .int .u8 0, .int .u8 0, .int .u8 0, .int .u8 0, .int .u8 0, .int .u8 0, .int .u8 0, .int .u8 0, .int .u8 0, .int .u8 0, .int .u8 0, .int .u8 0, .int .u8 0, .int .u8 0, .int .u8 0, .int .u8 0, .int .u8 0, .int .u8 0, .int .u8 0, .int .u8 0] : Array Value) 45)).setRow w.heap.size _ = w2 at hcp B2 G2
  have EC : ((#[.int .u8 0, .int .u8 0, .int .u8 0, .int .u8 0, .int .u8 0, .int .u8 0, .int .u8 0, .int .u8 0, .int .u8 0, .int .u8 0, .int .u8 0, .int .u8 0, .int .u8 0, .int .u8 0, .int .u8 0, .int .u8 0, .int .u8 0, .int .u8 0, .int .u8 0, .int .u8 0, .int .u8 0, .int .u8 0, .int .u8 0, .int .u8 0, .int .u8 0, .int .u8 0, .int .u8 0, .int .u8 0, .int .u8 0, .int .u8 0, .int .u8 0, .int .u8 0, .int .u8 0, .int .u8 0, .int .u8 0, .int .u8 0, .int .u8 0, .int .u8 0, .int .u8 0, .int .u8 0, .int .u8 0, .int .u8 0, .int .u8 0, .int .u8 0, .int .u8 0, .int .u8 0, .int .u8 0, .int .u8 0, .int .u8 0, .int .u8 0] : Array Value).toList.take 0 ++ l.flatMap bcells ++ (#[.int .u8 0, .int .u8 0, .int .u8 0, .int .u8 0, .int .u8 0, .int .u8 0, .int .u8 0, .int .u8 0, .int .u8 0, .int .u8 0, .int .u8 0, .int .u8 0, .int .u8 0, .int .u8 0, .int .u8 0, .int .u8 0, .int .u8 0, .int .u8 0, .int .u8 0, .int .u8 0, .int .u8 0, .int .u8 0, .int .u8 0, .int .u8 0, .int .u8 0, .int .u8 0, .int .u8 0, .int .u8 0, .int .u8 0, .int .u8 0, .int .u8 0, .int .u8 0, .int .u8 0, .int .u8 0, .int .u8 0, .int .u8 0, .int .u8 0, .int .u8 0, .int .u8 0, .int .u8 0, .int .u8 0, .int .u8 0, .int .u8 0, .int .u8 0, .int .u8 0, .int .u8 0, .int .u8 0, .int .u8 0, .int .u8 0, .int .u8 0] : Array Value).toList.drop (0 + (l.flatMap bcells).length)) = (l ++ List.replicate (50 - n) 0).map Extern.Stop.cell := by
    rw [List.take_zero, List.nil_append, FL, Nat.zero_add, List.map_append, flat_map16]
    congr 1
    exact lit_drop n
  rw [EC] at G2
  have EQ := fun v => run_eql_bytes (P := Tryd.prog) v 45 5 50 (by kernel_rfl) Tryd.underlying5 (fun w => by kernel_rfl) (l ++ List.replicate (50 - n) 0) (List.replicate 50 0) (by simp; omega) (by simp)
  rw [show ((List.replicate 50 (0 : UInt8)).map Extern.Stop.cell).toArray = (#[.int .u8 0, .int .u8 0, .int .u8 0, .int .u8 0, .int .u8 0, .int .u8 0, .int .u8 0, .int .u8 0, .int .u8 0, .int .u8 0, .int .u8 0, .int .u8 0, .int .u8 0, .int .u8 0, .int .u8 0, .int .u8 0, .int .u8 0, .int .u8 0, .int .u8 0, .int .u8 0, .int .u8 0, .int .u8 0, .int .u8 0, .int .u8 0, .int .u8 0, .int .u8 0, .int .u8 0, .int .u8 0, .int .u8 0, .int .u8 0, .int .u8 0, .int .u8 0, .int .u8 0, .int .u8 0, .int .u8 0, .int .u8 0, .int .u8 0, .int .u8 0, .int .u8 0, .int .u8 0, .int .u8 0, .int .u8 0, .int .u8 0, .int .u8 0, .int .u8 0, .int .u8 0, .int .u8 0, .int .u8 0, .int .u8 0, .int .u8 0] : Array Value) by kernel_rfl, all_same n hn h1] at EQ
  obtain ⟨cs, hcs⟩ : ∃ cs, cs = (l ++ List.replicate (50 - n) 0).map Extern.Stop.cell := ⟨_, rfl⟩
  have CL : cs.length = 50 := by rw [hcs]; simp; omega
  rw [← hcs] at G2 EQ
  have RA : Hid (w2.rangeAt w.heap.size 0 cs) := fun j v hv => by rw [Lib.cell_of_heap G2, Nat.zero_add]; simpa using hv
  have RI : Hid ((Tryd.prog.info? 45).map (·.size) = some cs.length) := by show _ = _; rw [CL]; kernel_rfl
  have RU : Hid (Tryd.prog.underlying 45 = some (.array 50 5)) := by show _ = _; kernel_rfl
  obtain ⟨r, hrr⟩ : ∃ r, r = (l.all fun b => b == 0) := ⟨_, rfl⟩
  rw [← hrr] at EQ ⊢
  rw [FL] at hcp
  clear hi hz0 hz1 hz2 FL N3 hr hn h1 G2 EC hcs CL hrr
  go_enter Tryd.func18, Tryd.ntmps18
  go_wp2_with (first | refine wpList_load_mid rfl 45 _ rfl w.heap.size 0 rfl cs _ RA.out RU.out rfl RI.out ?_ | fail)
  go_ret
  exact ⟨rfl, B2.out⟩

end Go.Proofs.YtjokaaekliapmaaDoor
