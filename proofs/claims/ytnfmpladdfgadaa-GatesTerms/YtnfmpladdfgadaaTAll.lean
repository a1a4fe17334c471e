/-
  What ofAll of package terms answers.
-/
import Derived.Test.YtnfmpladdfgadaaTTell
namespace Go.Proofs.Ytnfmpladdfgadaa
open Go.RowKit

/-- A row of terms that is being filled. -/
def FB (w : World) (g : Nat) (b : Int) (n k : Nat) : Prop :=
  ∃ cs : Array Value, w.heap[g]? = some (.cells cs 64 (0, 0)) ∧ cs.size = n * 2 ∧ (∀ j, j < n * 2 → ∃ v, cs[j]? = some (.int .i64 v)) ∧ ∀ j, j < k → cs[j * 2]? = some (.int .i64 (j : Int)) ∧ cs[j * 2 + 1]? = some (.int .i64 (b + (j : Int)))
theorem FB.start (w : World) (b : Int) (n : Nat) : FB (w.alloc (.cells (madeCells #[.int .i64 0, .int .i64 0] (n * 2)) 64)) w.heap.size b n 0 := by
  refine ⟨_, heap_alloc_new w _, size_madeCells _ _, fun j hj => ⟨0, ?_⟩, fun j hj => absurd hj (by omega)⟩
  have h2 : j % 2 = 0 ∨ j % 2 = 1 := by omega
  rcases h2 with h2 | h2 <;> simp [madeCells, hj, h2]
theorem FB.lt {w : World} {g : Nat} {b : Int} {n k : Nat} (h : FB w g b n k) : g < w.heap.size := by
  obtain ⟨cs, h1, _⟩ := h
  exact (Array.getElem?_eq_some_iff.1 h1).1
theorem FB.facts {w : World} {g : Nat} {b : Int} {n k : Nat} (h : FB w g b n k) (hk : k < n) :
    (∃ v, w.cell? ⟨g, k * 2, none⟩ = some (.int .i64 v)) ∧ (∃ v, w.cell? ⟨g, k * 2 + 1, none⟩ = some (.int .i64 v)) ∧ ∀ i, w.frozen? ⟨g, i, none⟩ = false := by
  obtain ⟨cs, h1, h2, h3, _⟩ := h
  refine ⟨?_, ?_, fun i => Lib.frozen_of_heap h1 i⟩
  · rw [Lib.cell_of_heap h1]; exact h3 _ (by omega)
  · rw [Lib.cell_of_heap h1]; exact h3 _ (by omega)
theorem FB.step {w : World} {g : Nat} {b : Int} {n k : Nat} (h : FB w g b n k) (hk : k < n) :
    FB ((w.setCell ⟨g, k * 2, none⟩ (.int .i64 (k : Int))).setCell ⟨g, k * 2 + 1, none⟩ (.int .i64 (b + (k : Int)))) g b n (k + 1) := by
  obtain ⟨cs, h1, h2, h3, h4⟩ := h
  refine ⟨_, Lib.heap_setCell_same (Lib.heap_setCell_same h1 _) _, by simp [h2], fun j hj => ?_, fun j hj => ?_⟩
  · by_cases e1 : j = k * 2 + 1
    · subst e1; exact ⟨_, by rw [Array.getElem?_setIfInBounds_self_of_lt (by simp; omega)]⟩
    · by_cases e2 : j = k * 2
      · subst e2; exact ⟨_, by rw [Array.getElem?_setIfInBounds_ne (by omega), Array.getElem?_setIfInBounds_self_of_lt (by omega)]⟩
      · obtain ⟨v, hv⟩ := h3 j hj
        exact ⟨v, by rw [Array.getElem?_setIfInBounds_ne (by omega), Array.getElem?_setIfInBounds_ne (by omega)]; exact hv⟩
  · by_cases e : j = k
    · subst e
      exact ⟨by rw [Array.getElem?_setIfInBounds_ne (by omega), Array.getElem?_setIfInBounds_self_of_lt (by omega)], by rw [Array.getElem?_setIfInBounds_self_of_lt (by simp; omega)]⟩
    · obtain ⟨a1, a2⟩ := h4 j (by omega)
      exact ⟨by rw [Array.getElem?_setIfInBounds_ne (by omega), Array.getElem?_setIfInBounds_ne (by omega)]; exact a1, by rw [Array.getElem?_setIfInBounds_ne (by omega), Array.getElem?_setIfInBounds_ne (by omega)]; exact a2⟩
theorem num_get {n j : Nat} (h : j < n) : (numL n)[j]? = some (j : Int) := by simp [numL, h]
theorem FB.done {w : World} {g : Nat} {b : Int} {n : Nat} (h : FB w g b n n) : Rg tcells w (some ⟨g, 0, none⟩) (seqT b (numL n)) := fun _ => by
  have hl := h.lt
  obtain ⟨cs, h1, h2, h3, h4⟩ := h
  refine ⟨g, 0, rfl, hl, fun j u hu => ?_⟩
  rw [Nat.zero_add, Lib.cell_of_heap h1]
  have hj : j < n * 2 := by
    have := (List.getElem?_eq_some_iff.1 hu).1
    rw [flat_len tcells_len, seq_len, num_len] at this
    exact this
  have e : j = j / 2 * 2 + j % 2 := by omega
  have g1 := seq_get (numL n) b (j / 2) _ (num_get (by omega))
  rw [e, flat_get tcells_len _ (j / 2) (j % 2) _ g1 (by omega)] at hu
  obtain ⟨a1, a2⟩ := h4 (j / 2) (by omega)
  have h5 : j % 2 = 0 ∨ j % 2 = 1 := by omega
  rw [e]
  rcases h5 with h5 | h5
  · rw [h5] at hu ⊢
    rw [Nat.add_zero, a1]; exact hu
  · rw [h5] at hu ⊢
    rw [a2]; exact hu

set_option maxHeartbeats 4000000 in
set_option maxRecDepth 100000 in
theorem ofAll_new (lk lo lt : Int) (o : Int) (s : Sh) (m cx cy n : Nat) (first : Int) (w : World) (hn : sizeI s.c s.h s.x = (n : Int)) (o0 : 0 ≤ o) (o1 : o ≤ 8) (f0 : 0 ≤ first) (f1 : first ≤ 512) :
    Calls Try.prog 66 #[.agg #[.int .i64 lk, .int .i64 lo, .int .i64 (m : Int), .int .i64 lt, .int .i64 s.c, .int .i64 s.h, .int .i64 s.x, .int .i64 o, .complex .f64 (fl cx) (fl cy)], .int .i64 first] w (RowNew tcells (seqT (first + o * (n : Int)) (numL n)) w) := by
  have nb := sizeI_bd s.c s.h s.x
  rw [hn] at nb
  have n1 : n ≤ 128 := by omega
  obtain ⟨i0, hi, hz0, hz1, hz2⟩ := info_parts Try.info64
  have hmk : ∀ w : World, (Instr.makeSlice 40 (.int .i64 (n : Int)) (.int .i64 (n : Int))).run Try.prog w = .ok (.slice (some ⟨w.heap.size, 0, none⟩) n n) (w.alloc (.cells (madeCells #[.int .i64 0, .int .i64 0] (n * 2)) 64)) := fun w => by
    have := run_make (P := Try.prog) w 40 64 i0 _ Try.underlying40 hi hz0 .i64 .i64 (n : Int) (n : Int) (by omega) (Int.le_refl _) (by rw [hz2]; omega) (by omega)
    rw [hz1] at this
    exact this
  have q0 : (0 : Int) ≤ o * (n : Int) := mul_lo o0 (by omega)
  have q1 : o * (n : Int) ≤ 1024 := by have := mul_hi o0 o1 (show (0 : Int) ≤ (n : Int) by omega) (show (n : Int) ≤ 128 by omega); omega
  obtain ⟨b, hb⟩ : ∃ b, b = first + o * (n : Int) := ⟨_, rfl⟩
  have HBB := Lib.hid hb; have HN := Lib.hid hn
  rw [← hb]
  have b0 : 0 ≤ b := by omega
  have b1 : b ≤ 100000 := by omega
  clear hb hn nb hi hz0 hz1 hz2
  go_enter Try.func66, Try.ntmps66
  go_wp2_with fail
  refine (size_is s.c s.h s.x (n : Int) HN.out _).mono ?_
  rintro e w1 ⟨rfl, hb1⟩
  have B1 := Lib.hid (chain ((Below.refl w.heap.size w).alloc (Nat.le_refl _) _) hb1)
  have X1 := Lib.hid ((XB.new w lk lo lt o s m cx cy).keep (KeepX.below hb1))
  have lx1 := X1.out.lt
  clear hb1
  go_wp2_with fail
  obtain ⟨g, hg⟩ : ∃ g, g = w1.heap.size := ⟨_, rfl⟩
  obtain ⟨W, hW⟩ : ∃ W, W = w1.alloc (.cells (madeCells #[.int .i64 0, .int .i64 0] (n * 2)) 64) := ⟨_, rfl⟩
  have F0 : Hid (FB W g b n 0) := by rw [hW, hg]; exact FB.start w1 b n
  have B2 : Hid (Below w.heap.size w W) := by rw [hW]; exact chain_alloc B1.out _
  have X2 : Hid (XB W w.heap.size lk lo lt o s m cx cy) := by rw [hW]; exact (Lib.alloc_old _ _ _ lx1).trans X1.out
  have gne : w.heap.size < g := by rw [hg]; exact lx1
  rw [← hW, ← hg]
  clear hW hg X1 B1 lx1
  go_loopg [7, 15] n (fun gh _ s15 wx => ∃ k : Nat, k ≤ n ∧ Hid (gh = n - k) ∧ s15 = .int .i64 (k : Int) ∧ Hid (FB wx g b n k) ∧ Hid (Below w.heap.size w wx) ∧ Hid (XB wx w.heap.size lk lo lt o s m cx cy))
  case atStart => exact ⟨0, by omega, by show _ = _; omega, rfl, F0, B2, X2⟩
  case round =>
    obtain ⟨k, hk, HG, rfl, FK, BK, XK⟩ := hrel
    obtain ⟨x0, x1, x2, x3, x4, x5, x6, x7, x8⟩ := XK.out.cells
    by_cases km : k < n
    · obtain ⟨⟨v0, y0⟩, ⟨v1, y1⟩, fz⟩ := FK.out.facts km
      have f0 := fz (k * 2)
      have f1 := fz (k * 2 + 1)
      have lg := FK.out.lt
      have ki : (k : Int) < (n : Int) := by omega
      have ka : (0 : Int) ≤ (k : Int) := by omega
      have V : Hid (first + o * (n : Int) + (k : Int) = b + (k : Int)) := by show _ = _; rw [HBB.out]
      clear fz
      go_wp2_with fail
      rw [V.out]
      have F1 := Lib.hid (FK.out.step km)
      have B3 : Hid (Below w.heap.size w _) := (BK.out.setCell (p := ⟨g, k * 2, none⟩) (by show w.heap.size ≤ g; omega) (.int .i64 (k : Int))).setCell (p := ⟨g, k * 2 + 1, none⟩) (by show w.heap.size ≤ g; omega) (.int .i64 (b + (k : Int)))
      have X3 : Hid (XB ((_ : World).setCell ⟨g, k * 2 + 1, none⟩ (.int .i64 (b + (k : Int)))) w.heap.size lk lo lt o s m cx cy) := (Below.heap_setCell _ _ _ _ (by show w.heap.size ≠ g; omega)).trans ((Below.heap_setCell _ ⟨g, k * 2, none⟩ (.int .i64 (k : Int)) _ (by show w.heap.size ≠ g; omega)).trans XK.out)
      go_roundg (n - (k + 1))
      case measure => have := HG.out; omega
      case rel => exact ⟨k + 1, by omega, rfl, by go_num, F1, B3, X3⟩
    · obtain rfl : k = n := by omega
      go_wp2_with fail
      go_ret
      exact ⟨some ⟨g, 0, none⟩, k, k, rfl, by rw [seq_len, num_len], FK.out.done, BK.out, Nat.le_refl _, by unfold maxLen; omega, fun a ha => by cases ha; show w.heap.size ≤ g; omega⟩
theorem ofAll_any (lk lo lt : Int) (o : Int) (s : Sh) (m cx cy n : Nat) (first : Int) (w : World) (hn : sizeI s.c s.h s.x = (n : Int)) (o0 : 0 ≤ o) (o1 : o ≤ 8) (f0 : 0 ≤ first) (f1 : first ≤ 512) :
    Calls Try.prog 66 #[.agg #[.int .i64 lk, .int .i64 lo, .int .i64 (m : Int), .int .i64 lt, .int .i64 s.c, .int .i64 s.h, .int .i64 s.x, .int .i64 o, .complex .f64 (fl cx) (fl cy)], .int .i64 first] w (RowTo tcells (seqT (first + o * (n : Int)) (numL n)) w) := by
  exact (ofAll_new lk lo lt o s m cx cy n first w hn o0 o1 f0 f1).mono fun _ _ h => h.row

end Go.Proofs.Ytnfmpladdfgadaa
