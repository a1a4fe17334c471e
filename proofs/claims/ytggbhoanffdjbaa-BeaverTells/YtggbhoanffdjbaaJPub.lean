/-
  What package triple answers: Half, Row.
-/
import Derived.Test.YtggbhoanffdjbaaJMath
import Derived.Test.YtggbhoanffdjbaaJRef
import Derived.Test.YtggbhoanffdjbaaSPub
namespace Go.Proofs.Ytggbhoanffdjbaa
open Go.RowKit

/-- An array, or a row, of numbers that is being filled; T: the type that its block has. -/
def AB9 (T : Nat) (w : World) (g n k : Nat) (us : List UInt64) : Prop :=
  ∃ cs : Array Value, w.heap[g]? = some (.cells cs T (0, 0)) ∧ cs.size = n ∧ (∀ j, j < n → ∃ v : Int, cs[j]? = some (.int .u64 v)) ∧ ∀ j x, j < k → us[j]? = some x → cs[j]? = some (.int .u64 (uz x))
theorem AB9.lt {T : Nat} {w : World} {g n k : Nat} {us : List UInt64} (h : AB9 T w g n k us) : g < w.heap.size := by
  obtain ⟨cs, h1, _⟩ := h
  exact (Array.getElem?_eq_some_iff.1 h1).1
theorem AB9.start (T : Nat) (w : World) (n : Nat) (us : List UInt64) : AB9 T (w.alloc (.cells (madeCells #[.int .u64 0] n) T)) w.heap.size n 0 us := by
  refine ⟨_, heap_alloc_new w _, size_madeCells _ _, fun j hj => ⟨0, ?_⟩, fun j _ hj => absurd hj (by omega)⟩
  simp [madeCells, hj, Nat.mod_one]
theorem AB9.below {T : Nat} {w w' : World} {g n k : Nat} {us : List UInt64} (h : AB9 T w g n k us) (hb : Below w.heap.size w w') : AB9 T w' g n k us := by
  have hl := h.lt
  obtain ⟨cs, h1, h2⟩ := h
  exact ⟨cs, (hb.block g hl).trans h1, h2⟩
theorem AB9.drew {T : Nat} {w : World} {g n k : Nat} {us : List UInt64} (h : AB9 T w g n k us) : AB9 T w.drew g n k us := h
theorem AB9.facts {T : Nat} {w : World} {g n k : Nat} {us : List UInt64} (h : AB9 T w g n k us) (hk : k < n) : (∃ v, w.cell? ⟨g, k, none⟩ = some (.int .u64 v)) ∧ w.frozen? ⟨g, k, none⟩ = false := by
  obtain ⟨cs, h1, h2, h3, _⟩ := h
  exact ⟨by rw [Lib.cell_of_heap h1]; exact h3 k hk, Lib.frozen_of_heap h1 k⟩
theorem AB9.any {T : Nat} {w : World} {g n k : Nat} {us : List UInt64} (h : AB9 T w g n k us) {j : Nat} (hj : j < n) : (∃ v, w.cell? ⟨g, j, none⟩ = some (.int .u64 v)) ∧ w.frozen? ⟨g, j, none⟩ = false := by
  obtain ⟨cs, h1, h2, h3, _⟩ := h
  exact ⟨by rw [Lib.cell_of_heap h1]; exact h3 j hj, Lib.frozen_of_heap h1 j⟩
theorem AB9.step {T : Nat} {w : World} {g n k : Nat} {us : List UInt64} {x : UInt64} (h : AB9 T w g n k us) (hk : k < n) (hx : us[k]? = some x) : AB9 T (w.setCell ⟨g, k, none⟩ (.int .u64 (uz x))) g n (k + 1) us := by
  obtain ⟨cs, h1, h2, h3, h4⟩ := h
  refine ⟨_, Lib.heap_setCell_same h1 _, by simp [h2], fun j hj => ?_, fun j y hj hy => ?_⟩
  · by_cases e : j = k
    · subst e; exact ⟨_, by rw [Array.getElem?_setIfInBounds_self_of_lt (by omega)]⟩
    · obtain ⟨v, hv⟩ := h3 j hj
      exact ⟨v, by rw [Array.getElem?_setIfInBounds_ne (by omega)]; exact hv⟩
  · by_cases e : j = k
    · subst e
      rw [hx] at hy
      obtain rfl := Option.some.inj hy
      rw [Array.getElem?_setIfInBounds_self_of_lt (by omega)]
    · rw [Array.getElem?_setIfInBounds_ne (by omega)]
      exact h4 j y (by omega) hy
theorem AB9.done {T : Nat} {w : World} {g n : Nat} {us : List UInt64} (h : AB9 T w g n n us) (hn : us.length = n) : Rg ucells w (some ⟨g, 0, none⟩) us := fun _ => by
  have hl := h.lt
  obtain ⟨cs, h1, h2, h3, h4⟩ := h
  refine ⟨g, 0, rfl, hl, fun j u hu => ?_⟩
  rw [Nat.zero_add, Lib.cell_of_heap h1]
  have hj : j < us.length := by
    have := (List.getElem?_eq_some_iff.1 hu).1
    rw [flat_len ucells_len] at this; omega
  have hx := List.getElem?_eq_getElem hj
  have := flat_get ucells_len us j 0 _ hx (by decide)
  rw [Nat.mul_one, Nat.add_zero] at this
  rw [this] at hu
  obtain rfl := Option.some.inj hu
  exact h4 j _ (by omega) hx


theorem AB9.cell {T : Nat} {w : World} {g n k : Nat} {us : List UInt64} {x : UInt64} (h : AB9 T w g n n us) (hk : k < n) (hx : us[k]? = some x) : w.cell? ⟨g, k, none⟩ = some (.int .u64 (uz x)) := by
  obtain ⟨cs, h1, _, _, h4⟩ := h
  rw [Lib.cell_of_heap h1]
  exact h4 k x hk hx
/-- The five numbers that a triple is made of. -/
def fiveL (s i : UInt64) : List UInt64 := (List.range 5).map fun k => numU s (5 * i + UInt64.ofNat k)
theorem fiveL_get (s i : UInt64) {k : Nat} (h : k < 5) : (fiveL s i)[k]? = some (numU s (5 * i + UInt64.ofNat k)) := by simp [fiveL, h]

/-- Five numbers, as an array. -/
def arr5 (s i : UInt64) : Value := .agg #[.int .u64 (uz (numU s (5 * i))), .int .u64 (uz (numU s (5 * i + 1))), .int .u64 (uz (numU s (5 * i + 2))), .int .u64 (uz (numU s (5 * i + 3))), .int .u64 (uz (numU s (5 * i + 4)))]
theorem below_set5 {w0 w : World} {B b : Nat} (H : Below B w0 w) (hb : B ≤ b) (v0 v1 v2 v3 v4 : Value) :
    Below B w0 (((((w.setCell ⟨b, 0, none⟩ v0).setCell ⟨b, 1, none⟩ v1).setCell ⟨b, 2, none⟩ v2).setCell ⟨b, 3, none⟩ v3).setCell ⟨b, 4, none⟩ v4) :=
  ((((H.setCell (p := ⟨b, 0, none⟩) hb _).setCell (p := ⟨b, 1, none⟩) hb _).setCell (p := ⟨b, 2, none⟩) hb _).setCell (p := ⟨b, 3, none⟩) hb _).setCell (p := ⟨b, 4, none⟩) hb _
theorem AB9.zero (T : Nat) (w : World) (us : List UInt64) : AB9 T (w.alloc (.cells #[.int .u64 0, .int .u64 0, .int .u64 0, .int .u64 0, .int .u64 0] T)) w.heap.size 5 0 us :=
  ⟨_, heap_alloc_new w _, rfl, fun j hj => ⟨0, by
    have : j = 0 ∨ j = 1 ∨ j = 2 ∨ j = 3 ∨ j = 4 := by omega
    rcases this with rfl | rfl | rfl | rfl | rfl <;> rfl⟩, fun j _ hj => absurd hj (by omega)⟩

set_option maxHeartbeats 2000000 in
set_option maxRecDepth 100000 in
theorem numbers11 (s i : UInt64) (w : World) : Calls Try.prog 60 #[.int .u64 (uz s), .int .u64 (uz i)] w fun e w' => e = .returned (arr5 s i) ∧ Below w.heap.size w w' := by
  have e0 := Lib.hid (uz_mul 5 i)
  go_enter Try.func60, Try.ntmps60
  go_wp2_with fail
  obtain ⟨V, hV⟩ : ∃ V, V = w.alloc (.cells #[.int .u64 0, .int .u64 0, .int .u64 0, .int .u64 0, .int .u64 0] 62) := ⟨_, rfl⟩
  obtain ⟨V2, hV2⟩ : ∃ V2, V2 = V.alloc (.cells #[.int .u64 0, .int .u64 0, .int .u64 0, .int .u64 0, .int .u64 0] 62) := ⟨_, rfl⟩
  have hs : V.heap.size = w.heap.size + 1 := by rw [hV]; simp
  have Z : Hid (AB9 62 V2 w.heap.size 5 0 (fiveL s i)) := by
    rw [hV2]
    refine AB9.below ?_ (chain_alloc (Below.refl _ _) _)
    rw [hV]
    exact AB9.zero _ w _
  have F0 : Hid (AB9 62 V2 (w.heap.size + 1) 5 0 (fiveL s i)) := by
    rw [hV2, ← hs]
    exact AB9.zero _ V _
  have B0 : Hid (Below w.heap.size w V2) := by rw [hV2, hV]; exact chain_alloc (chain_alloc (Below.refl _ w) _) _
  rw [← hV, ← hV2]
  obtain ⟨g, hg⟩ : ∃ g, g = w.heap.size + 1 := ⟨_, rfl⟩
  rw [← hg] at F0 ⊢
  obtain ⟨z, hz⟩ : ∃ z, z = w.heap.size := ⟨_, rfl⟩
  have gz : g ≠ z := by omega
  have gl : w.heap.size ≤ g := by omega
  have zl : w.heap.size ≤ z := by omega
  rw [← hz] at Z ⊢
  clear hV hV2 hs hg hz
  go_loopg [6, 7] 5 (fun gh _ s9 wx => ∃ k : Nat, k ≤ 5 ∧ Hid (gh = 5 - k) ∧ s9 = .int .i64 (k : Int) ∧ Hid (AB9 62 wx g 5 k (fiveL s i)) ∧ Hid (AB9 62 wx z 5 0 (fiveL s i)) ∧ Hid (Below w.heap.size w wx))
  case atStart => exact ⟨0, by omega, by show _ = _; omega, rfl, F0, Z, B0⟩
  case round =>
    obtain ⟨k, hk, HG, rfl, FK, ZK, BK⟩ := hrel
    by_cases kn : k < 5
    · have ki : (k : Int) < 5 := by omega
      have ka : (0 : Int) ≤ (k : Int) := by omega
      obtain ⟨y, hy⟩ : ∃ y, y = 5 * i + UInt64.ofNat k := ⟨_, rfl⟩
      obtain ⟨x, hx⟩ : ∃ x, x = numU s y := ⟨_, rfl⟩
      have u1 := uz_conv k
      have u2 : IntKind.u64.wrap (5 * uz i) = uz (5 * i) := e0.out
      have u3 : IntKind.u64.wrap (uz (5 * i) + uz (UInt64.ofNat k)) = uz y := by rw [hy]; exact uz_add _ _
      have GX : Hid ((fiveL s i)[k]? = some x) := by rw [hx, hy]; exact fiveL_get s i kn
      have KN : Hid (k < 5) := kn
      have CN : Hid (∀ w, Calls Try.prog 30 #[.int .u64 (uz s), .int .u64 (uz y)] w fun e w' => e = .returned (.int .u64 (uz x)) ∧ Below w.heap.size w w') := fun w => by rw [hx]; exact number9 s y w
      clear hx hy
      go_wp2_with fail
      refine (CN.out _).mono ?_
      rintro e w2 ⟨rfl, hb⟩
      have F2 := Lib.hid (FK.out.below hb)
      have Z2 := Lib.hid (ZK.out.below hb)
      have B2 := Lib.hid (chain BK.out hb)
      obtain ⟨⟨v, c0⟩, q0⟩ := F2.out.facts kn
      clear hb u1 u2 u3 kn
      go_wp2_with fail
      have F3 := Lib.hid (F2.out.step KN.out GX.out)
      have Z3 : Hid (AB9 62 (w2.setCell ⟨g, k, none⟩ (.int .u64 (uz x))) z 5 0 (fiveL s i)) := by
        obtain ⟨cs, h1, h2⟩ := Z2.out
        exact ⟨cs, (Below.heap_setCell w2 ⟨g, k, none⟩ _ z (Ne.symm gz)).trans h1, h2⟩
      have B3 : Hid (Below w.heap.size w (w2.setCell ⟨g, k, none⟩ (.int .u64 (uz x)))) := B2.out.setCell (p := ⟨g, k, none⟩) gl _
      go_roundg (5 - (k + 1))
      case measure => have := HG.out; have := KN.out; omega
      case rel => exact ⟨k + 1, by have := KN.out; omega, rfl, by go_num, F3, Z3, B3⟩
    · obtain rfl : k = 5 := by omega
      obtain ⟨p, hp⟩ : ∃ p, p = numU s (5 * i) := ⟨_, rfl⟩
      obtain ⟨q, hq⟩ : ∃ q, q = numU s (5 * i + 1) := ⟨_, rfl⟩
      obtain ⟨r, hr⟩ : ∃ r, r = numU s (5 * i + 2) := ⟨_, rfl⟩
      obtain ⟨u, hu⟩ : ∃ u, u = numU s (5 * i + 3) := ⟨_, rfl⟩
      obtain ⟨v, hv⟩ : ∃ v, v = numU s (5 * i + 4) := ⟨_, rfl⟩
      have E : Hid (arr5 s i = .agg #[.int .u64 (uz p), .int .u64 (uz q), .int .u64 (uz r), .int .u64 (uz u), .int .u64 (uz v)]) := by show _ = _; rw [hp, hq, hr, hu, hv]; rfl
      have c0 := FK.out.cell (k := 0) (x := p) (by decide) (by rw [hp, fiveL_get s i (by decide)]; exact congrArg (fun y => some (numU s y)) (UInt64.add_zero _))
      have c1 := FK.out.cell (k := 1) (x := q) (by decide) (by rw [hq, fiveL_get s i (by decide)]; rfl)
      have c2 := FK.out.cell (k := 2) (x := r) (by decide) (by rw [hr, fiveL_get s i (by decide)]; rfl)
      have c3 := FK.out.cell (k := 3) (x := u) (by decide) (by rw [hu, fiveL_get s i (by decide)]; rfl)
      have c4 := FK.out.cell (k := 4) (x := v) (by decide) (by rw [hv, fiveL_get s i (by decide)]; rfl)
      obtain ⟨⟨x0, y0⟩, f0⟩ := ZK.out.any (j := 0) (by decide)
      obtain ⟨⟨x1, y1⟩, f1⟩ := ZK.out.any (j := 1) (by decide)
      obtain ⟨⟨x2, y2⟩, f2⟩ := ZK.out.any (j := 2) (by decide)
      obtain ⟨⟨x3, y3⟩, f3⟩ := ZK.out.any (j := 3) (by decide)
      obtain ⟨⟨x4, y4⟩, f4⟩ := ZK.out.any (j := 4) (by decide)
      have lz := ZK.out.lt
      have lg := FK.out.lt
      clear hp hq hr hu hv
      go_wp2_with fail
      exact bodyPost_ret (v := .agg #[.int .u64 (uz p), .int .u64 (uz q), .int .u64 (uz r), .int .u64 (uz u), .int .u64 (uz v)]) (by simp [results, Try.results60, go_sem, y0, y1, y2, y3, y4]) rfl ⟨by rw [E.out], below_set5 BK.out zl _ _ _ _ _⟩

set_option maxHeartbeats 2000000 in
set_option maxRecDepth 100000 in
theorem half11 (s : UInt64) (a : Int) (i : UInt64) (w : World) : Calls Try.prog 37 #[.int .u64 (uz s), .int .i64 a, .int .u64 (uz i)] w fun e w' => e = .returned (tpv (halfU s a i)) ∧ Below w.heap.size w w' := by
  obtain ⟨p, hp⟩ : ∃ p, p = numU s (5 * i) := ⟨_, rfl⟩
  obtain ⟨q, hq⟩ : ∃ q, q = numU s (5 * i + 1) := ⟨_, rfl⟩
  obtain ⟨r, hr⟩ : ∃ r, r = numU s (5 * i + 2) := ⟨_, rfl⟩
  obtain ⟨u, hu⟩ : ∃ u, u = numU s (5 * i + 3) := ⟨_, rfl⟩
  obtain ⟨v, hv⟩ : ∃ v, v = numU s (5 * i + 4) := ⟨_, rfl⟩
  have CN : Hid (∀ w, Calls Try.prog 60 #[.int .u64 (uz s), .int .u64 (uz i)] w fun e w' => e = .returned (.agg #[.int .u64 (uz p), .int .u64 (uz q), .int .u64 (uz r), .int .u64 (uz u), .int .u64 (uz v)]) ∧ Below w.heap.size w w') := fun w => by rw [hp, hq, hr, hu, hv]; exact numbers11 s i w
  have E0 : Hid (a = 0 → halfU s a i = ⟨p, q, r⟩) := fun h0 => by rw [h0, half_zero, hp, hq, hr]
  have E1 : Hid (a ≠ 0 → halfU s a i = ⟨u, v, (p + u) * (q + v) - r⟩) := fun h0 => by rw [half_one h0, hp, hq, hr, hu, hv]
  clear hp hq hr hu hv
  go_enter Try.func37, Try.ntmps37
  go_wp2_with fail
  refine (CN.out _).mono ?_
  rintro e w1 ⟨rfl, hb⟩
  obtain ⟨z, hz⟩ : ∃ z, z = w.heap.size := ⟨_, rfl⟩
  have Z : Hid (TC w1 z Tp.z) := by rw [hz]; exact TC.below (t := Tp.z) (heap_alloc_new w _) hb
  have BK : Hid (Below w.heap.size w w1) := (chain_alloc (Below.refl _ w) _).trans (hb.mono (by simp))
  have zl : w.heap.size ≤ z := by omega
  rw [← hz]
  clear hb hz
  go_wp2_with fail
  obtain ⟨V, hV⟩ : ∃ V, V = w1.alloc (.cells #[.int .u64 (uz p), .int .u64 (uz q), .int .u64 (uz r), .int .u64 (uz u), .int .u64 (uz v)] 62) := ⟨_, rfl⟩
  have ZV : Hid (TC V z Tp.z) := by rw [hV]; exact Z.out.below (chain_alloc (Below.refl _ _) _)
  have BV : Hid (Below w.heap.size w V) := by rw [hV]; exact chain_alloc BK.out _
  have FV : Hid (V.heap[w1.heap.size]? = some (.cells #[.int .u64 (uz p), .int .u64 (uz q), .int .u64 (uz r), .int .u64 (uz u), .int .u64 (uz v)] 62 (0, 0))) := by rw [hV]; exact heap_alloc_new w1 _
  rw [← hV]
  clear hV
  obtain ⟨g, hg⟩ : ∃ g, g = w1.heap.size := ⟨_, rfl⟩
  rw [← hg] at FV ⊢
  clear hg
  have c0 : V.cell? ⟨g, 0, none⟩ = some (.int .u64 (uz p)) := by rw [Lib.cell_of_heap FV.out]; rfl
  have c1 : V.cell? ⟨g, 1, none⟩ = some (.int .u64 (uz q)) := by rw [Lib.cell_of_heap FV.out]; rfl
  have c2 : V.cell? ⟨g, 2, none⟩ = some (.int .u64 (uz r)) := by rw [Lib.cell_of_heap FV.out]; rfl
  have c3 : V.cell? ⟨g, 3, none⟩ = some (.int .u64 (uz u)) := by rw [Lib.cell_of_heap FV.out]; rfl
  have c4 : V.cell? ⟨g, 4, none⟩ = some (.int .u64 (uz v)) := by rw [Lib.cell_of_heap FV.out]; rfl
  go_quiet (fail)
  obtain ⟨y0, y1, y2⟩ := ZV.out.cells
  have f0 := ZV.out.frozen 0
  have f1 := ZV.out.frozen 1
  have f2 := ZV.out.frozen 2
  have lz := ZV.out.lt
  by_cases h0 : a = 0
  · have d : (a == 0) = true := by simp [h0]
    have E := Lib.hid (E0.out h0)
    clear h0 c0 c1 c2 c3 c4 Z ZV
    go_wp2_with fail
    exact bodyPost_ret (v := tpv ⟨p, q, r⟩) (by simp [results, Try.results37, go_sem, tpv, y0, y1, y2]) rfl ⟨by rw [E.out], below_set3 (chain_drewN BV.out _) zl _ _ _⟩
  · have d : (a == 0) = false := by simp [h0]
    have E := Lib.hid (E1.out h0)
    have g1 : IntKind.u64.wrap (uz p + uz u) = uz (p + u) := uz_add _ _
    have g2 : IntKind.u64.wrap (uz q + uz v) = uz (q + v) := uz_add _ _
    have g3 : IntKind.u64.wrap (uz (p + u) * uz (q + v)) = uz ((p + u) * (q + v)) := uz_mul _ _
    have g4 : IntKind.u64.wrap (uz ((p + u) * (q + v)) - uz r) = uz ((p + u) * (q + v) - r) := uz_sub _ _
    clear h0 c0 c1 c2 c3 c4 Z ZV
    go_wp2_with fail
    exact bodyPost_ret (v := tpv ⟨u, v, (p + u) * (q + v) - r⟩) (by simp [results, Try.results37, go_sem, tpv, y0, y1, y2]) rfl ⟨by rw [E.out], below_set3 (chain_drewN BV.out _) zl _ _ _⟩

/-- A row of triples that is being filled. -/
def TB (w : World) (g n k : Nat) (ts : List Tp) : Prop :=
  ∃ cs : Array Value, w.heap[g]? = some (.cells cs 37 (0, 0)) ∧ cs.size = n * 3 ∧ (∀ j, j < n * 3 → ∃ v : Int, cs[j]? = some (.int .u64 v)) ∧ ∀ j t, j < k → ts[j]? = some t → cs[j * 3]? = some (.int .u64 (uz t.a)) ∧ cs[j * 3 + 1]? = some (.int .u64 (uz t.b)) ∧ cs[j * 3 + 2]? = some (.int .u64 (uz t.c))
theorem TB.lt {w : World} {g n k : Nat} {ts : List Tp} (h : TB w g n k ts) : g < w.heap.size := by
  obtain ⟨cs, h1, _⟩ := h
  exact (Array.getElem?_eq_some_iff.1 h1).1
theorem TB.start (w : World) (n : Nat) (ts : List Tp) : TB (w.alloc (.cells (madeCells #[.int .u64 0, .int .u64 0, .int .u64 0] (n * 3)) 37)) w.heap.size n 0 ts := by
  refine ⟨_, heap_alloc_new w _, size_madeCells _ _, fun j hj => ⟨0, ?_⟩, fun j _ hj => absurd hj (by omega)⟩
  have h3 : j % 3 = 0 ∨ j % 3 = 1 ∨ j % 3 = 2 := by omega
  rcases h3 with h3 | h3 | h3 <;> simp [madeCells, hj, h3]
theorem TB.below {w w' : World} {g n k : Nat} {ts : List Tp} (h : TB w g n k ts) (hb : Below w.heap.size w w') : TB w' g n k ts := by
  have hl := h.lt
  obtain ⟨cs, h1, h2⟩ := h
  exact ⟨cs, (hb.block g hl).trans h1, h2⟩
theorem TB.facts {w : World} {g n k : Nat} {ts : List Tp} (h : TB w g n k ts) (hk : k < n) : (∃ v, w.cell? ⟨g, k * 3, none⟩ = some (.int .u64 v)) ∧ (∃ v, w.cell? ⟨g, k * 3 + 1, none⟩ = some (.int .u64 v)) ∧ (∃ v, w.cell? ⟨g, k * 3 + 2, none⟩ = some (.int .u64 v)) ∧ w.frozen? ⟨g, k * 3, none⟩ = false ∧ w.frozen? ⟨g, k * 3 + 1, none⟩ = false ∧ w.frozen? ⟨g, k * 3 + 2, none⟩ = false := by
  obtain ⟨cs, h1, h2, h3, _⟩ := h
  exact ⟨by rw [Lib.cell_of_heap h1]; exact h3 _ (by omega), by rw [Lib.cell_of_heap h1]; exact h3 _ (by omega), by rw [Lib.cell_of_heap h1]; exact h3 _ (by omega), Lib.frozen_of_heap h1 _, Lib.frozen_of_heap h1 _, Lib.frozen_of_heap h1 _⟩
theorem TB.step {w : World} {g n k : Nat} {ts : List Tp} {t : Tp} (h : TB w g n k ts) (hk : k < n) (ht : ts[k]? = some t) :
    TB (((w.setCell ⟨g, k * 3, none⟩ (.int .u64 (uz t.a))).setCell ⟨g, k * 3 + 1, none⟩ (.int .u64 (uz t.b))).setCell ⟨g, k * 3 + 2, none⟩ (.int .u64 (uz t.c))) g n (k + 1) ts := by
  obtain ⟨cs, h1, h2, h3, h4⟩ := h
  refine ⟨_, Lib.heap_setCell_same (Lib.heap_setCell_same (Lib.heap_setCell_same h1 _) _) _, by simp [h2], fun j hj => ?_, fun j y hj hy => ?_⟩
  · obtain ⟨v, hv⟩ := h3 j hj
    by_cases e2 : j = k * 3 + 2
    · subst e2; exact ⟨_, Array.getElem?_setIfInBounds_self_of_lt (by simp; omega)⟩
    · rw [Array.getElem?_setIfInBounds_ne (Ne.symm e2)]
      by_cases e1 : j = k * 3 + 1
      · subst e1; exact ⟨_, Array.getElem?_setIfInBounds_self_of_lt (by simp; omega)⟩
      · rw [Array.getElem?_setIfInBounds_ne (Ne.symm e1)]
        by_cases e0 : j = k * 3
        · subst e0; exact ⟨_, Array.getElem?_setIfInBounds_self_of_lt (by omega)⟩
        · rw [Array.getElem?_setIfInBounds_ne (Ne.symm e0)]; exact ⟨v, hv⟩
  · by_cases e : j = k
    · subst e
      rw [ht] at hy
      obtain rfl := Option.some.inj hy
      refine ⟨?_, ?_, ?_⟩
      · rw [Array.getElem?_setIfInBounds_ne (by omega), Array.getElem?_setIfInBounds_ne (by omega), Array.getElem?_setIfInBounds_self_of_lt (by omega)]
      · rw [Array.getElem?_setIfInBounds_ne (by omega), Array.getElem?_setIfInBounds_self_of_lt (by simp; omega)]
      · rw [Array.getElem?_setIfInBounds_self_of_lt (by simp; omega)]
    · obtain ⟨q0, q1, q2⟩ := h4 j y (by omega) hy
      refine ⟨?_, ?_, ?_⟩ <;> rw [Array.getElem?_setIfInBounds_ne (by omega), Array.getElem?_setIfInBounds_ne (by omega), Array.getElem?_setIfInBounds_ne (by omega)] <;> assumption
theorem TB.done {w : World} {g n : Nat} {ts : List Tp} (h : TB w g n n ts) (hn : ts.length = n) : Rg tpcells w (some ⟨g, 0, none⟩) ts := fun _ => by
  have hl := h.lt
  obtain ⟨cs, h1, h2, h3, h4⟩ := h
  refine ⟨g, 0, rfl, hl, fun j u hu => ?_⟩
  rw [Nat.zero_add, Lib.cell_of_heap h1]
  have hj : j < ts.length * 3 := by
    have := (List.getElem?_eq_some_iff.1 hu).1
    rwa [flat_len tpcells_len] at this
  obtain ⟨t, ht⟩ : ∃ t, ts[j / 3]? = some t := ⟨_, List.getElem?_eq_getElem (by omega)⟩
  have := flat_get tpcells_len ts (j / 3) (j % 3) _ ht (by omega)
  rw [show j / 3 * 3 + j % 3 = j by omega, hu] at this
  obtain ⟨q0, q1, q2⟩ := h4 (j / 3) t (by omega) ht
  have h3 : j % 3 = 0 ∨ j % 3 = 1 ∨ j % 3 = 2 := by omega
  rcases h3 with e | e | e
  · rw [e] at this; rw [show j = j / 3 * 3 by omega]; rw [this]; exact q0
  · rw [e] at this; rw [show j = j / 3 * 3 + 1 by omega]; rw [this]; exact q1
  · rw [e] at this; rw [show j = j / 3 * 3 + 2 by omega]; rw [this]; exact q2

theorem below_set3t {w0 w : World} {B b : Nat} (H : Below B w0 w) (hb : B ≤ b) (j : Nat) (v0 v1 v2 : Value) :
    Below B w0 (((w.setCell ⟨b, j, none⟩ v0).setCell ⟨b, j + 1, none⟩ v1).setCell ⟨b, j + 2, none⟩ v2) :=
  ((H.setCell (p := ⟨b, j, none⟩) hb _).setCell (p := ⟨b, j + 1, none⟩) hb _).setCell (p := ⟨b, j + 2, none⟩) hb _

set_option maxHeartbeats 4000000 in
set_option maxRecDepth 100000 in
theorem row11 (s : UInt64) (a : Int) (f : UInt64) (m : Int) (w : World) : Calls Try.prog 40 #[.int .u64 (uz s), .int .i64 a, .int .u64 (uz f), .int .i64 m] w (RowTo tpcells (rowTN s a f m) w) := by
  obtain ⟨i0, hi, hz0, hz1, hz2⟩ := info_parts Try.info37
  by_cases h0 : m < 1
  · have d : decide (m < 1) = true := decide_eq_true h0
    have E : Hid (rowTN s a f m = []) := by
      show _ = _
      unfold rowTN rowT
      rw [if_pos (by omega), show m.toNat = 0 by omega]; rfl
    clear h0
    go_enter Try.func40, Try.ntmps40
    go_wp2_with fail
    go_ret
    exact ⟨none, 0, 0, rfl, by rw [E.out]; rfl, by rw [E.out]; exact Rg.nil _ _ _, Below.refl _ _, Nat.le_refl _, Nat.zero_le _⟩
  have d0 : decide (m < 1) = false := decide_eq_false h0
  by_cases h1 : 4096 < m
  · have d : decide (4096 < m) = true := decide_eq_true h1
    have E : Hid (rowTN s a f m = []) := if_neg (by omega)
    clear h0 h1
    go_enter Try.func40, Try.ntmps40
    go_wp2_with fail
    go_ret
    exact ⟨none, 0, 0, rfl, by rw [E.out]; rfl, by rw [E.out]; exact Rg.nil _ _ _, Below.refl _ _, Nat.le_refl _, Nat.zero_le _⟩
  obtain ⟨n, rfl⟩ : ∃ n : Nat, m = n := ⟨m.toNat, by omega⟩
  have d1 : decide (4096 < (n : Int)) = false := decide_eq_false h1
  have d2 : decide (4096 < n) = false := decide_eq_false (by omega)
  have d3 : decide (n < 1) = false := decide_eq_false (by omega)
  have n4 : n ≤ 4096 := by omega
  have E : Hid (rowTN s a f (n : Int) = rowT s a f n) := by show _ = _; unfold rowTN; rw [if_pos (by omega)]; rfl
  have hmk : ∀ w : World, (Instr.makeSlice 40 (.int .i64 (n : Int)) (.int .i64 (n : Int))).run Try.prog w = .ok (.slice (some ⟨w.heap.size, 0, none⟩) n n) (w.alloc (.cells (madeCells #[.int .u64 0, .int .u64 0, .int .u64 0] (n * 3)) 37)) := fun w => by
    have := run_make (P := Try.prog) w 40 37 i0 _ Try.underlying40 hi hz0 .i64 .i64 (n : Int) (n : Int) (by omega) (Int.le_refl _) (by rw [hz2]; omega) (by omega)
    rw [hz1] at this
    exact this
  clear h0 h1
  go_enter Try.func40, Try.ntmps40
  go_wp2_with fail
  obtain ⟨g, hg⟩ : ∃ g, g = w.heap.size := ⟨_, rfl⟩
  obtain ⟨W, hW⟩ : ∃ W, W = w.alloc (.cells (madeCells #[.int .u64 0, .int .u64 0, .int .u64 0] (n * 3)) 37) := ⟨_, rfl⟩
  have F0 : Hid (TB W g n 0 (rowT s a f n)) := by rw [hW, hg]; exact TB.start w n _
  have B0 : Hid (Below w.heap.size w W) := by rw [hW]; exact (Below.refl _ w).alloc (Nat.le_refl _) _
  have gl : w.heap.size ≤ g := by omega
  rw [← hW, ← hg]
  clear hW hg
  go_loopg [10, 20] n (fun gh _ s19 wx => ∃ k : Nat, k ≤ n ∧ Hid (gh = n - k) ∧ s19 = .int .i64 (k : Int) ∧ Hid (TB wx g n k (rowT s a f n)) ∧ Hid (Below w.heap.size w wx))
  case atStart => exact ⟨0, Nat.zero_le _, by show _ = _; omega, rfl, F0, B0⟩
  case round =>
    obtain ⟨k, hk, HG, rfl, FK, BK⟩ := hrel
    by_cases kn : k < n
    · have ki : (k : Int) < (n : Int) := by omega
      have ka : (0 : Int) ≤ (k : Int) := by omega
      obtain ⟨y, hy⟩ : ∃ y, y = f + UInt64.ofNat k := ⟨_, rfl⟩
      obtain ⟨x, hx⟩ : ∃ x, x = halfU s a y := ⟨_, rfl⟩
      have u1 := uz_conv k
      have u2 : IntKind.u64.wrap (uz f + uz (UInt64.ofNat k)) = uz y := by rw [hy]; exact uz_add _ _
      have GX : Hid ((rowT s a f n)[k]? = some x) := by rw [hx, hy]; exact trow_get kn
      have KN : Hid (k < n) := kn
      have CN : Hid (∀ w, Calls Try.prog 37 #[.int .u64 (uz s), .int .i64 a, .int .u64 (uz y)] w fun e w' => e = .returned (tpv x) ∧ Below w.heap.size w w') := fun w => by rw [hx]; exact half11 s a y w
      clear hx hy
      go_wp2_with fail
      refine (CN.out _).mono ?_
      rintro e w2 ⟨rfl, hb⟩
      have F2 := Lib.hid (FK.out.below hb)
      have B2 := Lib.hid (chain BK.out hb)
      obtain ⟨⟨v, c0⟩, ⟨v1, c1⟩, ⟨v2, c2⟩, q0, q1, q2⟩ := F2.out.facts kn
      unfold tpv
      clear hb u1 u2 kn
      go_wp2_with fail
      have F3 := Lib.hid (F2.out.step KN.out GX.out)
      have B3 := Lib.hid (below_set3t B2.out gl (k * 3) (.int .u64 (uz x.a)) (.int .u64 (uz x.b)) (.int .u64 (uz x.c)))
      go_roundg (n - (k + 1))
      case measure => have := HG.out; have := KN.out; omega
      case rel => exact ⟨k + 1, by have := KN.out; omega, rfl, by go_num, F3, B3⟩
    · obtain rfl : k = n := by omega
      go_wp2_with fail
      go_ret
      exact ⟨some ⟨g, 0, none⟩, k, k, rfl, by rw [E.out, trow_len], by rw [E.out]; exact FK.out.done (trow_len s a f k), BK.out, Nat.le_refl _, by unfold maxLen; omega⟩

end Go.Proofs.Ytggbhoanffdjbaa
