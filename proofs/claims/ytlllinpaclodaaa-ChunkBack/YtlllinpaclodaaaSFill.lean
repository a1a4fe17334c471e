/-
  A row of numbers that is filled, place by place.
-/
import Derived.Test.YtlllinpaclodaaaBase
namespace Go.Proofs.Ytlllinpaclodaaa
open Go.RowKit

theorem Try.info40 : (Try.prog.info? 40).map (fun i => (i.zero, i.size, i.bytes)) = some (some (.int .u64 0), 1, 8) := by kernel_rfl
/-- A row that is being filled, number by number. -/
def SB9 (w : World) (g n k : Nat) (us : List UInt64) : Prop :=
  ∃ cs : Array Value, w.heap[g]? = some (.cells cs 40 (0, 0)) ∧ cs.size = n ∧ (∀ j, j < n → ∃ v : Int, cs[j]? = some (.int .u64 v)) ∧ ∀ j x, j < k → us[j]? = some x → cs[j]? = some (.int .u64 (uz x))
theorem SB9.lt {w : World} {g n k : Nat} {us : List UInt64} (h : SB9 w g n k us) : g < w.heap.size := by
  obtain ⟨cs, h1, _⟩ := h
  exact (Array.getElem?_eq_some_iff.1 h1).1
theorem SB9.start (w : World) (n : Nat) (us : List UInt64) : SB9 (w.alloc (.cells (madeCells #[.int .u64 0] n) 40)) w.heap.size n 0 us := by
  refine ⟨_, heap_alloc_new w _, size_madeCells _ _, fun j hj => ⟨0, ?_⟩, fun j _ hj => absurd hj (by omega)⟩
  simp [madeCells, hj, Nat.mod_one]
theorem SB9.below {w w' : World} {g n k : Nat} {us : List UInt64} (h : SB9 w g n k us) (hb : Below w.heap.size w w') : SB9 w' g n k us := by
  have hl := h.lt
  obtain ⟨cs, h1, h2⟩ := h
  exact ⟨cs, (hb.block g hl).trans h1, h2⟩
theorem SB9.drew {w : World} {g n k : Nat} {us : List UInt64} (h : SB9 w g n k us) : SB9 w.drew g n k us := h
theorem SB9.facts {w : World} {g n k : Nat} {us : List UInt64} (h : SB9 w g n k us) (hk : k < n) : (∃ v, w.cell? ⟨g, k, none⟩ = some (.int .u64 v)) ∧ w.frozen? ⟨g, k, none⟩ = false := by
  obtain ⟨cs, h1, h2, h3, _⟩ := h
  exact ⟨by rw [Lib.cell_of_heap h1]; exact h3 k hk, Lib.frozen_of_heap h1 k⟩
theorem SB9.step {w : World} {g n k : Nat} {us : List UInt64} {x : UInt64} (h : SB9 w g n k us) (hk : k < n) (hx : us[k]? = some x) : SB9 (w.setCell ⟨g, k, none⟩ (.int .u64 (uz x))) g n (k + 1) us := by
  obtain ⟨cs, h1, h2, h3, h4⟩ := h
  refine ⟨_, Lib.heap_setCell_same h1 _, by simp [h2], fun j hj => ?_, fun j y hj hy => ?_⟩
  · by_cases e : j = k
    · subst e; exact ⟨_, by rw [Array.getElem?_setIfInBounds_self_of_lt (by omega)]⟩
    · obtain ⟨v, hv⟩ := h3 j hj
      exact ⟨v, by rw [Array.getElem?_setIfInBounds_ne (by omega)]; exact hv⟩
  · by_cases e : j = k
    · subst e
      rw [hx] at hy
      obtain rfl := Option.some.inj hy
      rw [Array.getElem?_setIfInBounds_self_of_lt (by omega)]
    · rw [Array.getElem?_setIfInBounds_ne (by omega)]
      exact h4 j y (by omega) hy
theorem SB9.done {w : World} {g n : Nat} {us : List UInt64} (h : SB9 w g n n us) (hn : us.length = n) : Rg ucells w (some ⟨g, 0, none⟩) us := fun _ => by
  have hl := h.lt
  obtain ⟨cs, h1, h2, h3, h4⟩ := h
  refine ⟨g, 0, rfl, hl, fun j u hu => ?_⟩
  rw [Nat.zero_add, Lib.cell_of_heap h1]
  have hj : j < us.length := by
    have := (List.getElem?_eq_some_iff.1 hu).1
    rw [flat_len ucells_len] at this; omega
  have hx := List.getElem?_eq_getElem hj
  have := flat_get ucells_len us j 0 _ hx (by decide)
  rw [Nat.mul_one, Nat.add_zero] at this
  rw [this] at hu
  obtain rfl := Option.some.inj hu
  exact h4 j _ (by omega) hx


end Go.Proofs.Ytlllinpaclodaaa
