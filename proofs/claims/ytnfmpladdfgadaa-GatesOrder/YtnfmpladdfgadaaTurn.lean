/-
  Layers and shapes in variables; what the document's own Conv and Pool make of a layer that fits.
-/
import Derived.Test.YtnfmpladdfgadaaFacts
import Derived.Test.YtnfmpladdfgadaaRefC
namespace Go.Proofs.Ytnfmpladdfgadaa
open Go.RowKit

theorem sh_at {w : World} {b off : Nat} {ss : List Sh} (h : ∀ j u, (ss.flatMap scells)[j]? = some u → w.cell? ⟨b, off + j, none⟩ = some u) {k : Nat} {S : Sh} (hS : ss[k]? = some S) :
    w.cell? ⟨b, off + k * 3, none⟩ = some (.int .i64 S.c) ∧ w.cell? ⟨b, off + k * 3 + 1, none⟩ = some (.int .i64 S.h) ∧ w.cell? ⟨b, off + k * 3 + 2, none⟩ = some (.int .i64 S.x) := by
  have q := Rg.at scells_len h hS
  exact ⟨q 0 _ rfl, q 1 _ rfl, q 2 _ rfl⟩
/-- A layer in a variable. -/
def LB (w : World) (b : Nat) (l : Ly) : Prop := w.heap[b]? = some (.cells #[.int .i64 l.k, .int .i64 l.o, .int .i64 l.s, .int .i64 l.t] 71 (0, 0))
theorem LB.lt {w : World} {b : Nat} {l : Ly} (H : LB w b l) : b < w.heap.size := (Array.getElem?_eq_some_iff.1 H).1
theorem LB.below {w w' : World} {b : Nat} {l : Ly} (H : LB w b l) (hb : Below w.heap.size w w') : LB w' b l := (hb.block b H.lt).trans H
theorem LB.cells {w : World} {b : Nat} {l : Ly} (H : LB w b l) : w.cell? ⟨b, 0, none⟩ = some (.int .i64 l.k) ∧ w.cell? ⟨b, 1, none⟩ = some (.int .i64 l.o) ∧ w.cell? ⟨b, 2, none⟩ = some (.int .i64 l.s) ∧ w.cell? ⟨b, 3, none⟩ = some (.int .i64 l.t) := by
  refine ⟨?_, ?_, ?_, ?_⟩ <;> (rw [Lib.cell_of_heap H]; rfl)
theorem ls_two (w : World) (l : Ly) (S : Sh) : LB ((w.alloc (.cells #[.int .i64 l.k, .int .i64 l.o, .int .i64 l.s, .int .i64 l.t] 71)).alloc (.cells #[.int .i64 S.c, .int .i64 S.h, .int .i64 S.x] 23)) w.heap.size l ∧ SB ((w.alloc (.cells #[.int .i64 l.k, .int .i64 l.o, .int .i64 l.s, .int .i64 l.t] 71)).alloc (.cells #[.int .i64 S.c, .int .i64 S.h, .int .i64 S.x] 23)) (w.heap.size + 1) S := by
  constructor
  · exact (Lib.alloc_old _ _ _ (by simp)).trans (heap_alloc_new w _)
  · have := SB.new (w.alloc (.cells #[.int .i64 l.k, .int .i64 l.o, .int .i64 l.s, .int .i64 l.t] 71)) S
    rwa [show (w.alloc _).heap.size = w.heap.size + 1 by simp] at this
theorem next_i64 {k j n : Nat} (hj : j = k + 1) (h : k < n) (hn : n ≤ 100000) : IntKind.i64.wrap ((k : Int) + 1) = (j : Int) := by rw [IntWalk.i64_in _ (by omega)]; omega
theorem next_wrap {k j n : Nat} (hj : j = k + 1) (h : k < n) (hn : n ≤ 100000) : wrap64 ((k : Int) + 1) = (j : Int) := by rw [IntWalk.wrap64_in _ (by omega)]; omega
theorem rconv_to (S : Sh) (l : Ly) (T : Sh) (hk : l.k = 1) (ho : okS S l = true) (hT : T = outS S l) (w : World) :
    Calls Try.prog 88 #[.agg #[.int .i64 S.c, .int .i64 S.h, .int .i64 S.x], .int .i64 l.o, .int .i64 l.s, .int .i64 l.t] w fun e w' => e = .returned (.tuple #[.agg #[.int .i64 T.c, .int .i64 T.h, .int .i64 T.x], .bool true]) ∧ Below w.heap.size w w' := by
  obtain ⟨e1, e2⟩ := out_conv S hk
  rw [e2] at ho
  subst hT
  rw [e1]
  have := rconv_any S.c S.h S.x l.o l.s l.t w
  rw [ho] at this
  exact this
theorem rpool_to (S : Sh) (l : Ly) (T : Sh) (hk : l.k = 3) (ho : okS S l = true) (hT : T = outS S l) (w : World) :
    Calls Try.prog 89 #[.agg #[.int .i64 S.c, .int .i64 S.h, .int .i64 S.x], .int .i64 l.s] w fun e w' => e = .returned (.tuple #[.agg #[.int .i64 T.c, .int .i64 T.h, .int .i64 T.x], .bool true]) ∧ Below w.heap.size w w' := by
  obtain ⟨e1, e2⟩ := out_pool S hk
  rw [e2] at ho
  subst hT
  rw [e1]
  have := rpool_any S.c S.h S.x l.s w
  rw [ho] at this
  exact this
theorem rright_to (T : Sh) (hr : T.r = true) (w : World) : Calls Try.prog 56 #[.agg #[.int .i64 T.c, .int .i64 T.h, .int .i64 T.x]] w fun e w' => e = .returned (.bool true) ∧ Below w.heap.size w w' := rright_yes T.c T.h T.x w hr

end Go.Proofs.Ytnfmpladdfgadaa
