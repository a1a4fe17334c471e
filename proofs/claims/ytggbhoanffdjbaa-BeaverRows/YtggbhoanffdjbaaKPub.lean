/-
  What package beaver answers: Open, Sum, Close, and rows of them.
-/
import Derived.Test.YtggbhoanffdjbaaKMath
import Derived.Test.YtggbhoanffdjbaaKRef
import Derived.Test.YtggbhoanffdjbaaJPub
import Derived.Deep.RegionHeld3
namespace Go.Proofs.Ytggbhoanffdjbaa
open Go.RowKit

set_option maxHeartbeats 1000000 in
set_option maxRecDepth 100000 in
theorem hide12 (t : Tp) (x y : UInt64) (w : World) : Calls Try.prog 61 #[tpv t, .int .u64 (uz x), .int .u64 (uz y)] w fun e w' => e = .returned (onv (openU x y t)) ∧ Below w.heap.size w w' := by
  have e1 : IntKind.u64.wrap (uz x - uz t.a) = uz (x - t.a) := uz_sub _ _
  have e2 : IntKind.u64.wrap (uz y - uz t.b) = uz (y - t.b) := uz_sub _ _
  unfold tpv
  go_enter Try.func61, Try.ntmps61
  go_wp2_with fail
  exact bodyPost_ret (v := onv (openU x y t)) (by simp [results, Try.results61, go_sem, onv, openU]) rfl ⟨rfl, by first | exact chain_alloc (chain_alloc (Below.refl _ w) _) _ | exact below_set2 (chain_alloc (chain_alloc (Below.refl _ w) _) _) (by omega) _ _⟩

set_option maxHeartbeats 1000000 in
set_option maxRecDepth 100000 in
theorem part12 (a : Int) (o : On) (t : Tp) (w : World) : Calls Try.prog 62 #[.agg #[.int .u64 (uz t.a), .int .u64 (uz t.b), .int .u64 (uz t.c), .int .u64 (uz o.d), .int .u64 (uz o.e)], .int .i64 a] w fun e w' => e = .returned (.int .u64 (uz (closeU a o t))) ∧ Below w.heap.size w w' := by
  have e1 : IntKind.u64.wrap (uz o.d * uz t.b) = uz (o.d * t.b) := uz_mul _ _
  have e2 : IntKind.u64.wrap (uz t.c + uz (o.d * t.b)) = uz (t.c + o.d * t.b) := uz_add _ _
  have e3 : IntKind.u64.wrap (uz o.e * uz t.a) = uz (o.e * t.a) := uz_mul _ _
  have e4 : IntKind.u64.wrap (uz (t.c + o.d * t.b) + uz (o.e * t.a)) = uz (t.c + o.d * t.b + o.e * t.a) := uz_add _ _
  have e5 : IntKind.u64.wrap (uz o.d * uz o.e) = uz (o.d * o.e) := uz_mul _ _
  have e6 : IntKind.u64.wrap (uz (t.c + o.d * t.b + o.e * t.a) + uz (o.d * o.e)) = uz (t.c + o.d * t.b + o.e * t.a + o.d * o.e) := uz_add _ _
  by_cases h0 : a = 0
  · have d : (a == 0) = true := by simp [h0]
    have E : Hid (closeU a o t = t.c + o.d * t.b + o.e * t.a + o.d * o.e) := if_pos h0
    clear h0
    go_enter Try.func62, Try.ntmps62
    go_wp2_with fail
    go_ret
    exact ⟨by rw [E.out]; rfl, chain_alloc (Below.refl _ w) _⟩
  · have d : (a == 0) = false := by simp [h0]
    have E : Hid (closeU a o t = t.c + o.d * t.b + o.e * t.a) := if_neg h0
    clear h0
    go_enter Try.func62, Try.ntmps62
    go_wp2_with fail
    go_ret
    exact ⟨by rw [E.out]; rfl, chain_alloc (Below.refl _ w) _⟩

set_option maxHeartbeats 1000000 in
set_option maxRecDepth 100000 in
theorem open12 (x y : UInt64) (t : Tp) (w : World) : Calls Try.prog 43 #[.int .u64 (uz x), .int .u64 (uz y), tpv t] w fun e w' => e = .returned (onv (openU x y t)) ∧ Below w.heap.size w w' := by
  have CN : Hid (∀ w, Calls Try.prog 61 #[.agg #[.int .u64 (uz t.a), .int .u64 (uz t.b), .int .u64 (uz t.c)], .int .u64 (uz x), .int .u64 (uz y)] w fun e w' => e = .returned (.agg #[.int .u64 (uz (openU x y t).d), .int .u64 (uz (openU x y t).e)]) ∧ Below w.heap.size w w') := fun w => hide12 t x y w
  unfold tpv onv
  obtain ⟨o, ho⟩ : ∃ o, o = openU x y t := ⟨_, rfl⟩
  rw [← ho] at CN ⊢
  clear ho
  go_enter Try.func43, Try.ntmps43
  go_wp2_with fail
  refine (CN.out _).mono ?_
  rintro e w2 ⟨rfl, hb⟩
  obtain ⟨V, hV⟩ : ∃ V, V = w.alloc (.cells #[.int .u64 (uz t.a), .int .u64 (uz t.b), .int .u64 (uz t.c)] 37) := ⟨_, rfl⟩
  have hs : V.heap.size = w.heap.size + 1 := by rw [hV]; simp
  obtain ⟨z, hz⟩ : ∃ z, z = w.heap.size + 1 := ⟨_, rfl⟩
  have zl : w.heap.size ≤ z := by omega
  have Z : Hid (OC w2 z On.z) := by
    rw [hz, ← hs]
    refine OC.below (o := On.z) (heap_alloc_new V _) ?_
    rw [hV]
    exact hb
  have B : Hid (Below w.heap.size w w2) := (chain_alloc (chain_alloc (Below.refl _ w) _) _).trans (hb.mono (by simp; omega))
  rw [← hz]
  clear hb hV hs hz
  obtain ⟨y0, y1⟩ := Z.out.cells
  have f0 := Z.out.frozen 0
  have f1 := Z.out.frozen 1
  have lz := Z.out.lt
  go_wp2_with fail
  have Z2 := Lib.hid (Z.out.set o)
  obtain ⟨x0, x1⟩ := Z2.out.cells
  exact bodyPost_ret (v := .agg #[.int .u64 (uz o.d), .int .u64 (uz o.e)]) (by simp [results, Try.results43, go_sem, x0, x1]) rfl ⟨rfl, below_set2 B.out zl _ _⟩

set_option maxHeartbeats 1000000 in
set_option maxRecDepth 100000 in
theorem sum12 (a b : On) (w : World) : Calls Try.prog 45 #[onv a, onv b] w fun e w' => e = .returned (onv (sumO a b)) ∧ Below w.heap.size w w' := by
  have e1 : IntKind.u64.wrap (uz a.d + uz b.d) = uz (a.d + b.d) := uz_add _ _
  have e2 : IntKind.u64.wrap (uz a.e + uz b.e) = uz (a.e + b.e) := uz_add _ _
  unfold onv
  go_enter Try.func45, Try.ntmps45
  go_wp2_with fail
  exact bodyPost_ret (v := onv (sumO a b)) (by simp [results, Try.results45, go_sem, onv, sumO]) rfl ⟨rfl, by first | exact chain_alloc (chain_alloc (chain_alloc (Below.refl _ w) _) _) _ | exact below_set2 (chain_alloc (chain_alloc (chain_alloc (Below.refl _ w) _) _) _) (by omega) _ _⟩

set_option maxHeartbeats 1000000 in
set_option maxRecDepth 100000 in
theorem close12 (a : Int) (o : On) (t : Tp) (w : World) : Calls Try.prog 47 #[.int .i64 a, onv o, tpv t] w fun e w' => e = .returned (.int .u64 (uz (closeU a o t))) ∧ Below w.heap.size w w' := by
  have CN : Hid (∀ w, Calls Try.prog 62 #[.agg #[.int .u64 (uz t.a), .int .u64 (uz t.b), .int .u64 (uz t.c), .int .u64 (uz o.d), .int .u64 (uz o.e)], .int .i64 a] w fun e w' => e = .returned (.int .u64 (uz (closeU a o t))) ∧ Below w.heap.size w w') := fun w => part12 a o t w
  unfold tpv onv
  obtain ⟨c, hc⟩ : ∃ c, c = closeU a o t := ⟨_, rfl⟩
  rw [← hc] at CN ⊢
  clear hc
  go_enter Try.func47, Try.ntmps47
  go_wp2_with fail
  obtain ⟨W, hW⟩ : ∃ W, W = w := ⟨_, rfl⟩
  refine (CN.out _).mono ?_
  rintro e w2 ⟨rfl, hb⟩
  have B := Lib.hid hb
  clear hb
  go_wp2_with fail
  go_ret
  exact ⟨rfl, (chain_alloc (chain_alloc (Below.refl _ w) _) _).trans (B.out.mono (by simp; omega))⟩

/-- A row of openings that is being filled. -/
def OB (w : World) (g n k : Nat) (os : List On) : Prop :=
  ∃ cs : Array Value, w.heap[g]? = some (.cells cs 44 (0, 0)) ∧ cs.size = n * 2 ∧ (∀ j, j < n * 2 → ∃ v : Int, cs[j]? = some (.int .u64 v)) ∧ ∀ j o, j < k → os[j]? = some o → cs[j * 2]? = some (.int .u64 (uz o.d)) ∧ cs[j * 2 + 1]? = some (.int .u64 (uz o.e))
theorem OB.lt {w : World} {g n k : Nat} {os : List On} (h : OB w g n k os) : g < w.heap.size := by
  obtain ⟨cs, h1, _⟩ := h
  exact (Array.getElem?_eq_some_iff.1 h1).1
theorem OB.start (w : World) (n : Nat) (os : List On) : OB (w.alloc (.cells (madeCells #[.int .u64 0, .int .u64 0] (n * 2)) 44)) w.heap.size n 0 os := by
  refine ⟨_, heap_alloc_new w _, size_madeCells _ _, fun j hj => ⟨0, ?_⟩, fun j _ hj => absurd hj (by omega)⟩
  have h3 : j % 2 = 0 ∨ j % 2 = 1 := by omega
  rcases h3 with h3 | h3 <;> simp [madeCells, hj, h3]
theorem OB.below {w w' : World} {g n k : Nat} {os : List On} (h : OB w g n k os) (hb : Below w.heap.size w w') : OB w' g n k os := by
  have hl := h.lt
  obtain ⟨cs, h1, h2⟩ := h
  exact ⟨cs, (hb.block g hl).trans h1, h2⟩
theorem OB.facts {w : World} {g n k : Nat} {os : List On} (h : OB w g n k os) (hk : k < n) : (∃ v, w.cell? ⟨g, k * 2, none⟩ = some (.int .u64 v)) ∧ (∃ v, w.cell? ⟨g, k * 2 + 1, none⟩ = some (.int .u64 v)) ∧ w.frozen? ⟨g, k * 2, none⟩ = false ∧ w.frozen? ⟨g, k * 2 + 1, none⟩ = false := by
  obtain ⟨cs, h1, h2, h3, _⟩ := h
  exact ⟨by rw [Lib.cell_of_heap h1]; exact h3 _ (by omega), by rw [Lib.cell_of_heap h1]; exact h3 _ (by omega), Lib.frozen_of_heap h1 _, Lib.frozen_of_heap h1 _⟩
theorem OB.step {w : World} {g n k : Nat} {os : List On} {o : On} (h : OB w g n k os) (hk : k < n) (ho : os[k]? = some o) :
    OB ((w.setCell ⟨g, k * 2, none⟩ (.int .u64 (uz o.d))).setCell ⟨g, k * 2 + 1, none⟩ (.int .u64 (uz o.e))) g n (k + 1) os := by
  obtain ⟨cs, h1, h2, h3, h4⟩ := h
  refine ⟨_, Lib.heap_setCell_same (Lib.heap_setCell_same h1 _) _, by simp [h2], fun j hj => ?_, fun j y hj hy => ?_⟩
  · obtain ⟨v, hv⟩ := h3 j hj
    by_cases e1 : j = k * 2 + 1
    · subst e1; exact ⟨_, Array.getElem?_setIfInBounds_self_of_lt (by simp; omega)⟩
    · rw [Array.getElem?_setIfInBounds_ne (Ne.symm e1)]
      by_cases e0 : j = k * 2
      · subst e0; exact ⟨_, Array.getElem?_setIfInBounds_self_of_lt (by omega)⟩
      · rw [Array.getElem?_setIfInBounds_ne (Ne.symm e0)]; exact ⟨v, hv⟩
  · by_cases e : j = k
    · subst e
      rw [ho] at hy
      obtain rfl := Option.some.inj hy
      refine ⟨?_, ?_⟩
      · rw [Array.getElem?_setIfInBounds_ne (by omega), Array.getElem?_setIfInBounds_self_of_lt (by omega)]
      · rw [Array.getElem?_setIfInBounds_self_of_lt (by simp; omega)]
    · obtain ⟨q0, q1⟩ := h4 j y (by omega) hy
      refine ⟨?_, ?_⟩ <;> rw [Array.getElem?_setIfInBounds_ne (by omega), Array.getElem?_setIfInBounds_ne (by omega)] <;> assumption
theorem OB.done {w : World} {g n : Nat} {os : List On} (h : OB w g n n os) (hn : os.length = n) : Rg oncells w (some ⟨g, 0, none⟩) os := fun _ => by
  have hl := h.lt
  obtain ⟨cs, h1, h2, h3, h4⟩ := h
  refine ⟨g, 0, rfl, hl, fun j u hu => ?_⟩
  rw [Nat.zero_add, Lib.cell_of_heap h1]
  have hj : j < os.length * 2 := by
    have := (List.getElem?_eq_some_iff.1 hu).1
    rwa [flat_len oncells_len] at this
  obtain ⟨t, ht⟩ : ∃ t, os[j / 2]? = some t := ⟨_, List.getElem?_eq_getElem (by omega)⟩
  have := flat_get oncells_len os (j / 2) (j % 2) _ ht (by omega)
  rw [show j / 2 * 2 + j % 2 = j by omega, hu] at this
  obtain ⟨q0, q1⟩ := h4 (j / 2) t (by omega) ht
  have h3 : j % 2 = 0 ∨ j % 2 = 1 := by omega
  rcases h3 with e | e
  · rw [e] at this; rw [show j = j / 2 * 2 by omega]; rw [this]; exact q0
  · rw [e] at this; rw [show j = j / 2 * 2 + 1 by omega]; rw [this]; exact q1

theorem below_set2t {w0 w : World} {B b : Nat} (H : Below B w0 w) (hb : B ≤ b) (j : Nat) (v0 v1 : Value) :
    Below B w0 ((w.setCell ⟨b, j, none⟩ v0).setCell ⟨b, j + 1, none⟩ v1) :=
  (H.setCell (p := ⟨b, j, none⟩) hb _).setCell (p := ⟨b, j + 1, none⟩) hb _
theorem opens_at {xs ys : List UInt64} {ts : List Tp} {i : Nat} {x y : UInt64} {t : Tp} (hx : xs[i]? = some x) (hy : ys[i]? = some y) (ht : ts[i]? = some t) : (opensU xs ys ts)[i]? = some (openU x y t) := by
  simp [opensU, List.getElem?_zipWith, List.zip, hx, hy, ht]
theorem opens_many (xs ys : List UInt64) (ts : List Tp) : (opensU xs ys ts).length = min (min xs.length ys.length) ts.length := by simp [opensU]
theorem closes_at {a : Int} {os : List On} {ts : List Tp} {i : Nat} {o : On} {t : Tp} (ho : os[i]? = some o) (ht : ts[i]? = some t) : (closesU a os ts)[i]? = some (closeU a o t) := by
  simp [closesU, List.getElem?_zipWith, ho, ht]
theorem closes_many (a : Int) (os : List On) (ts : List Tp) : (closesU a os ts).length = min os.length ts.length := by simp [closesU]
theorem k_get {α : Type} {xs : List α} {n k : Nat} (h : k < n) (hn : n ≤ xs.length) : ∃ x, xs[k]? = some x := ⟨_, List.getElem?_eq_getElem (by omega)⟩

set_option maxHeartbeats 4000000 in
set_option maxRecDepth 100000 in
theorem opens12 (A B C : Option Addr) (cA cB cC na nb nc : Nat) (xs ys : List UInt64) (ts : List Tp) (w : World) (hx : Rg ucells w A xs) (hy : Rg ucells w B ys) (ht : Rg tpcells w C ts) (lx : na = xs.length) (ly : nb = ys.length) (lt : nc = ts.length) (hn : na ≤ 1000000) :
    Calls Try.prog 49 #[.slice A na cA, .slice B nb cB, .slice C nc cC] w (RowTo oncells (opensU xs ys ts) w) := by
  obtain ⟨i0, hi, hz0, hz1, hz2⟩ := info_parts Try.info44
  obtain ⟨n, hN⟩ : ∃ n, n = min (min na nb) nc := ⟨_, rfl⟩
  have hmin : ∀ (ts : Array TypeId) (t : TypeId) (w : World), (Builtin.min_ ts t #[.int .i64 (na : Int), .int .i64 (nb : Int), .int .i64 (nc : Int)]).run Try.prog w = .ok (.int .i64 (n : Int)) w := by
    intro ts t w
    simp [Builtin.min_, Builtin.min2]
    repeat' split
    all_goals omega
  have n6 : n ≤ 1000000 := by omega
  have hmk : ∀ w : World, (Instr.makeSlice 52 (.int .i64 (n : Int)) (.int .i64 (n : Int))).run Try.prog w = .ok (.slice (some ⟨w.heap.size, 0, none⟩) n n) (w.alloc (.cells (madeCells #[.int .u64 0, .int .u64 0] (n * 2)) 44)) := fun w => by
    have := run_make (P := Try.prog) w 52 44 i0 _ Try.underlying52 hi hz0 .i64 .i64 (n : Int) (n : Int) (by omega) (Int.le_refl _) (by rw [hz2]; omega) (by omega)
    rw [hz1] at this
    exact this
  obtain ⟨os, hos⟩ : ∃ os, os = opensU xs ys ts := ⟨_, rfl⟩
  have LO : Hid (os.length = n) := by show _ = _; rw [hos, opens_many, ← lx, ← ly, ← lt, hN]
  rw [← hos]
  have NA : Hid (n ≤ na) := by show n ≤ na; omega
  have NB : Hid (n ≤ nb) := by show n ≤ nb; omega
  have NC : Hid (n ≤ nc) := by show n ≤ nc; omega
  have HX := Lib.hid hx; have LX := Lib.hid lx; have HY := Lib.hid hy; have LY := Lib.hid ly; have HT := Lib.hid ht; have LT := Lib.hid lt
  have HO := Lib.hid hos
  clear hx lx hy ly ht lt hN hos hn
  go_enter Try.func49, Try.ntmps49
  go_wp2_with fail
  obtain ⟨g, hg⟩ : ∃ g, g = w.heap.size := ⟨_, rfl⟩
  obtain ⟨W, hW⟩ : ∃ W, W = w.alloc (.cells (madeCells #[.int .u64 0, .int .u64 0] (n * 2)) 44) := ⟨_, rfl⟩
  have F0 : Hid (OB W g n 0 os) := by rw [hW, hg]; exact OB.start w n _
  have B0 : Hid (Below w.heap.size w W) := by rw [hW]; exact (Below.refl _ w).alloc (Nat.le_refl _) _
  have gl : w.heap.size ≤ g := by omega
  rw [← hW, ← hg]
  clear hW hg hi hz0 hz1 hz2 hmk hmin
  go_loopg [8, 19] n (fun gh _ si wx => ∃ k : Nat, k ≤ n ∧ Hid (gh = n - k) ∧ si = .int .i64 (k : Int) ∧ Hid (OB wx g n k os) ∧ Hid (Below w.heap.size w wx))
  case atStart => exact ⟨0, Nat.zero_le _, by show _ = _; omega, rfl, F0, B0⟩
  case round =>
    obtain ⟨k, hk, HG, rfl, FK, BK⟩ := hrel
    by_cases kn : k < n
    · have ki : (k : Int) < (n : Int) := by omega
      have ka : (0 : Int) ≤ (k : Int) := by omega
      have kna : k < na := Nat.lt_of_lt_of_le kn NA.out
      have knb : k < nb := Nat.lt_of_lt_of_le kn NB.out
      have knc : k < nc := Nat.lt_of_lt_of_le kn NC.out
      have kia : (k : Int) < (na : Int) := by omega
      have kib : (k : Int) < (nb : Int) := by omega
      have kic : (k : Int) < (nc : Int) := by omega
      obtain ⟨x, gx⟩ := k_get kna (Nat.le_of_eq LX.out)
      obtain ⟨y, gy⟩ := k_get knb (Nat.le_of_eq LY.out)
      obtain ⟨t, gt⟩ := k_get knc (Nat.le_of_eq LT.out)
      obtain ⟨b1, o1, rfl, l1, q1⟩ := HX.out (by rw [← LX.out]; omega)
      obtain ⟨b2, o2, rfl, l2, q2⟩ := HY.out (by rw [← LY.out]; omega)
      obtain ⟨b3, o3, rfl, l3, q3⟩ := HT.out (by rw [← LT.out]; omega)
      have c1 := (BK.out.cell (p := ⟨b1, o1 + k, none⟩) l1).trans (su_cell q1 gx)
      have c2 := (BK.out.cell (p := ⟨b2, o2 + k, none⟩) l2).trans (su_cell q2 gy)
      obtain ⟨t1, t2, t3⟩ := tp_cells q3 gt
      have c3 := (BK.out.cell (p := ⟨b3, o3 + k * 3, none⟩) l3).trans t1
      have c4 := (BK.out.cell (p := ⟨b3, o3 + k * 3 + 1, none⟩) l3).trans t2
      have c5 := (BK.out.cell (p := ⟨b3, o3 + k * 3 + 2, none⟩) l3).trans t3
      obtain ⟨o, ho⟩ : ∃ o, o = openU x y t := ⟨_, rfl⟩
      have GX : Hid (os[k]? = some o) := by show _ = _; rw [HO.out, ho]; exact opens_at gx gy gt
      have KN : Hid (k < n) := kn
      have CN : Hid (∀ w, Calls Try.prog 43 #[.int .u64 (uz x), .int .u64 (uz y), .agg #[.int .u64 (uz t.a), .int .u64 (uz t.b), .int .u64 (uz t.c)]] w fun e w' => e = .returned (.agg #[.int .u64 (uz o.d), .int .u64 (uz o.e)]) ∧ Below w.heap.size w w') := fun w => by rw [ho]; exact open12 x y t w
      have L1 : b1 < wr.heap.size := Nat.lt_of_lt_of_le l1 BK.out.size
      have L2 : b2 < wr.heap.size := Nat.lt_of_lt_of_le l2 BK.out.size
      have L3 : b3 < wr.heap.size := Nat.lt_of_lt_of_le l3 BK.out.size
      have L4 := L3
      have L5 := L3
      have N1 : b1 ≠ g := by have : b1 < w.heap.size := l1; omega
      have N2 : b2 ≠ g := by have : b2 < w.heap.size := l2; omega
      have N3 : b3 ≠ g := by have : b3 < w.heap.size := l3; omega
      have N1 := Lib.hid N1; have N2 := Lib.hid N2; have N3 := Lib.hid N3
      clear ho gx gy gt q1 q2 q3 t1 t2 t3 l1 l2 l3
      go_wp2_with fail
      refine wp_region_noPanic ?_
      refine wp_region_held_drew (S := fun w' => w'.cell? ⟨b1, o1 + k, none⟩ = some (.int .u64 (uz x)) ∧ w'.cell? ⟨b2, o2 + k, none⟩ = some (.int .u64 (uz y)) ∧ w'.cell? ⟨b3, o3 + k * 3, none⟩ = some (.int .u64 (uz t.a)) ∧ w'.cell? ⟨b3, o3 + k * 3 + 1, none⟩ = some (.int .u64 (uz t.b)) ∧ w'.cell? ⟨b3, o3 + k * 3 + 2, none⟩ = some (.int .u64 (uz t.c))) (by kernel_rfl) ⟨c1, c2, c3, c4, c5⟩ (fun hHeld => ?_)
      have hd := below_drew wr
      replace c1 := (hd.cell (p := ⟨b1, o1 + k, none⟩) L1).trans c1
      replace L1 := Nat.lt_of_lt_of_le L1 hd.size
      replace c2 := (hd.cell (p := ⟨b2, o2 + k, none⟩) L2).trans c2
      replace L2 := Nat.lt_of_lt_of_le L2 hd.size
      replace c3 := (hd.cell (p := ⟨b3, o3 + k * 3, none⟩) L3).trans c3
      replace L3 := Nat.lt_of_lt_of_le L3 hd.size
      replace c4 := (hd.cell (p := ⟨b3, o3 + k * 3 + 1, none⟩) L4).trans c4
      replace L4 := Nat.lt_of_lt_of_le L4 hd.size
      replace c5 := (hd.cell (p := ⟨b3, o3 + k * 3 + 2, none⟩) L5).trans c5
      replace L5 := Nat.lt_of_lt_of_le L5 hd.size
      generalize wr.drew = wq1 at hHeld hd c1 L1 c2 L2 c3 L3 c4 L4 c5 L5 ⊢
      have BD : Hid (Below wq1.heap.size wq1 wq1) := Below.refl _ _
      refine wpAnyH_take (i := 0) (v := ?vv1001) (by simp only [List.getElem?_toArray, List.getElem?_cons_zero]; rfl) (by kernel_rfl) (by kernel_rfl) (by kernel_rfl) (fun _ _ _ h => h) (Or.inl ⟨by rfl, ?yy1001⟩) (by assumption) ?rr1001
      case yy1001 => (intro w hSw; (try dsimp only at hSw); go_simp; first | done | with_reducible rfl)
      simp only [Act.put, List.setIfInBounds_toArray, List.set_cons_zero, List.set_cons_succ]
      refine wpAnyH_take (i := 1) (v := ?vv1002) (by simp only [List.getElem?_toArray, List.getElem?_cons_zero, List.getElem?_cons_succ]; rfl) (by kernel_rfl) (by kernel_rfl) (by kernel_rfl) (fun _ _ _ h => h) (Or.inl ⟨by rfl, ?yy1002⟩) (by assumption) ?rr1002
      case yy1002 => (intro w hSw; (try dsimp only at hSw); go_simp; first | done | with_reducible rfl)
      simp only [Act.put, List.setIfInBounds_toArray, List.set_cons_zero, List.set_cons_succ]
      refine wpAnyH_take (i := 2) (v := ?vv1003) (by simp only [List.getElem?_toArray, List.getElem?_cons_zero, List.getElem?_cons_succ]; rfl) (by kernel_rfl) (by kernel_rfl) (by kernel_rfl) (fun _ _ _ h => h) (Or.inl ⟨by rfl, ?yy1003⟩) (by assumption) ?rr1003
      case yy1003 => (intro w hSw; (try dsimp only at hSw); go_simp; first | done | with_reducible rfl)
      simp only [Act.put, List.setIfInBounds_toArray, List.set_cons_zero, List.set_cons_succ]
      refine wpAnyH_take (i := 3) (v := ?vv1004) (by simp only [List.getElem?_toArray, List.getElem?_cons_zero, List.getElem?_cons_succ]; rfl) (by kernel_rfl) (by kernel_rfl) (by kernel_rfl) (fun _ _ _ h => h) (Or.inl ⟨by rfl, ?yy1004⟩) (by assumption) ?rr1004
      case yy1004 => (intro w hSw; (try dsimp only at hSw); go_simp; first | done | with_reducible rfl)
      simp only [Act.put, List.setIfInBounds_toArray, List.set_cons_zero, List.set_cons_succ]
      refine wpAnyH_take (i := 4) (v := ?vv1005) (by simp only [List.getElem?_toArray, List.getElem?_cons_zero, List.getElem?_cons_succ]; rfl) (by kernel_rfl) (by kernel_rfl) (by kernel_rfl) (fun _ _ _ h => h) (Or.inl ⟨by rfl, ?yy1005⟩) (by assumption) ?rr1005
      case yy1005 => (intro w hSw; (try dsimp only at hSw); go_simp; first | done | with_reducible rfl)
      simp only [Act.put, List.setIfInBounds_toArray, List.set_cons_zero, List.set_cons_succ]
      refine wpAnyH_take (i := 5) (v := ?vv1006) (by simp only [List.getElem?_toArray, List.getElem?_cons_zero, List.getElem?_cons_succ]; rfl) (by kernel_rfl) (by kernel_rfl) (by kernel_rfl) (fun _ _ _ h => h) (Or.inl ⟨by rfl, ?yy1006⟩) (by assumption) ?rr1006
      case yy1006 => (intro w hSw; (try dsimp only at hSw); go_simp; first | done | with_reducible rfl)
      simp only [Act.put, List.setIfInBounds_toArray, List.set_cons_zero, List.set_cons_succ]
      refine wpAnyH_take (i := 6) (v := ?vv1007) (by simp only [List.getElem?_toArray, List.getElem?_cons_zero, List.getElem?_cons_succ]; rfl) (by kernel_rfl) (by kernel_rfl) (by kernel_rfl) (fun _ _ _ h => h) (Or.inl ⟨by rfl, ?yy1007⟩) (by assumption) ?rr1007
      case yy1007 => (intro w hSw; (try dsimp only at hSw); go_simp; first | done | with_reducible rfl)
      simp only [Act.put, List.setIfInBounds_toArray, List.set_cons_zero, List.set_cons_succ]
      refine wpAnyH_take (i := 7) (v := ?vv1008) (by simp only [List.getElem?_toArray, List.getElem?_cons_zero, List.getElem?_cons_succ]; rfl) (by kernel_rfl) (by kernel_rfl) (by kernel_rfl) (fun _ _ _ h => h) (Or.inl ⟨by rfl, ?yy1008⟩) (by assumption) ?rr1008
      case yy1008 => (intro w hSw; (try dsimp only at hSw); go_simp; first | done | with_reducible rfl)
      simp only [Act.put, List.setIfInBounds_toArray, List.set_cons_zero, List.set_cons_succ]
      refine wpAnyH_take (i := 8) (v := ?vv1009) (by simp only [List.getElem?_toArray, List.getElem?_cons_zero, List.getElem?_cons_succ]; rfl) (by kernel_rfl) (by kernel_rfl) (by kernel_rfl) (fun _ _ _ h => h) (Or.inl ⟨by rfl, ?yy1009⟩) (by assumption) ?rr1009
      case yy1009 => (intro w hSw; (try dsimp only at hSw); go_simp; first | done | with_reducible rfl)
      simp only [Act.put, List.setIfInBounds_toArray, List.set_cons_zero, List.set_cons_succ]
      refine wpAnyH_take (i := 9) (v := ?vv1010) (by simp only [List.getElem?_toArray, List.getElem?_cons_zero, List.getElem?_cons_succ]; rfl) (by kernel_rfl) (by kernel_rfl) (by kernel_rfl) (fun _ _ _ h => h) (Or.inl ⟨by rfl, ?yy1010⟩) (by assumption) ?rr1010
      case yy1010 => (intro w hSw; (try dsimp only at hSw); go_simp; first | done | with_reducible rfl)
      simp only [Act.put, List.setIfInBounds_toArray, List.set_cons_zero, List.set_cons_succ]
      refine wpAnyH_take (i := 10) (v := ?vv1011) (by simp only [List.getElem?_toArray, List.getElem?_cons_zero, List.getElem?_cons_succ]; rfl) (by kernel_rfl) (by kernel_rfl) (by kernel_rfl) (fun _ _ _ h => h) (Or.inl ⟨by rfl, ?yy1011⟩) (by assumption) ?rr1011
      case yy1011 => (intro w hSw; (try dsimp only at hSw); go_simp; first | done | with_reducible rfl)
      simp only [Act.put, List.setIfInBounds_toArray, List.set_cons_zero, List.set_cons_succ]
      refine wpAnyH_take (i := 11) (v := ?vv1012) (by simp only [List.getElem?_toArray, List.getElem?_cons_zero, List.getElem?_cons_succ]; rfl) (by kernel_rfl) (by kernel_rfl) (by kernel_rfl) (fun _ _ _ h => h) (Or.inl ⟨by rfl, ?yy1012⟩) (by assumption) ?rr1012
      case yy1012 => (intro w hSw; (try dsimp only at hSw); go_simp; first | done | with_reducible rfl)
      simp only [Act.put, List.setIfInBounds_toArray, List.set_cons_zero, List.set_cons_succ]
      refine wpAnyH_take (i := 12) (v := ?vv1013) (by simp only [List.getElem?_toArray, List.getElem?_cons_zero, List.getElem?_cons_succ]; rfl) (by kernel_rfl) (by kernel_rfl) (by kernel_rfl) (fun _ _ _ h => h) (Or.inl ⟨by rfl, ?yy1013⟩) (by assumption) ?rr1013
      case yy1013 => (intro w hSw; (try dsimp only at hSw); go_simp; first | done | with_reducible rfl)
      simp only [Act.put, List.setIfInBounds_toArray, List.set_cons_zero, List.set_cons_succ]
      refine wpAnyH_take (i := 13) (v := ?vv1014) (by simp only [List.getElem?_toArray, List.getElem?_cons_zero, List.getElem?_cons_succ]; rfl) (by kernel_rfl) (by kernel_rfl) (by kernel_rfl) (fun _ _ _ h => h) (Or.inl ⟨by rfl, ?yy1014⟩) (by assumption) ?rr1014
      case yy1014 => (intro w hSw; (try dsimp only at hSw); go_simp; first | done | with_reducible rfl)
      simp only [Act.put, List.setIfInBounds_toArray, List.set_cons_zero, List.set_cons_succ]
      refine wpAnyH_ready (rs := [14]) (by kernel_rfl) (by simp) ?_
      refine AllReadyH.cons (by simp only [List.getElem?_toArray, List.getElem?_cons_zero, List.getElem?_cons_succ]; rfl) (fun K hK => ?_) ?_
      · skip
        go_simp
        go_at_call 43
        (with_reducible refine (CN.out _).mono ?_)
        rintro e wq2 ⟨rfl, hb⟩
        clear hHeld
        replace BD := Lib.hid (chain BD.out hb)
        clear hb
        go_wp2_with fail
        refine hK.out _ _ ⟨(BD.out.cell (p := ⟨b1, o1 + k, none⟩) L1).trans c1, (BD.out.cell (p := ⟨b2, o2 + k, none⟩) L2).trans c2, (BD.out.cell (p := ⟨b3, o3 + k * 3, none⟩) L3).trans c3, (BD.out.cell (p := ⟨b3, o3 + k * 3 + 1, none⟩) L4).trans c4, (BD.out.cell (p := ⟨b3, o3 + k * 3 + 2, none⟩) L5).trans c5⟩ (fun hHeld => ?_)
        clear hK K
        try simp only [Act.put, List.setIfInBounds_toArray, List.set_cons_zero, List.set_cons_succ]
        refine wpAnyH_take (i := 15) (v := ?vv1015) (by simp only [List.getElem?_toArray, List.getElem?_cons_zero, List.getElem?_cons_succ]; rfl) (by kernel_rfl) (by kernel_rfl) (by kernel_rfl) (fun _ _ _ h => h) (Or.inl ⟨by rfl, ?yy1015⟩) (by assumption) ?rr1015
        case yy1015 => (intro w hSw; (try dsimp only at hSw); go_simp; first | done | with_reducible rfl)
        simp only [Act.put, List.setIfInBounds_toArray, List.set_cons_zero, List.set_cons_succ]
        refine wpAnyH_ready (rs := [16]) (by kernel_rfl) (by simp) ?_
        refine AllReadyH.cons (by simp only [List.getElem?_toArray, List.getElem?_cons_zero, List.getElem?_cons_succ]; rfl) (fun K hK => ?_) ?_
        · skip
          have FW := Lib.hid ((FK.out.below hd).below BD.out)
          have BW := Lib.hid (chain (chain BK.out hd) BD.out)
          obtain ⟨⟨v, d0⟩, ⟨v1, d1⟩, p0, p1⟩ := FW.out.facts KN.out
          go_simp
          clear hHeld
          have F3 := Lib.hid (FW.out.step KN.out GX.out)
          have B3 := Lib.hid (below_set2t BW.out gl (k * 2) (.int .u64 (uz o.d)) (.int .u64 (uz o.e)))
          refine hK.out _ _ ⟨(World.cell?_setCell_far _ _ _ _ (Ne.symm N1.out)).trans ((World.cell?_setCell_far _ _ _ _ (Ne.symm N1.out)).trans ((BD.out.cell (p := ⟨b1, o1 + k, none⟩) L1).trans c1)), (World.cell?_setCell_far _ _ _ _ (Ne.symm N2.out)).trans ((World.cell?_setCell_far _ _ _ _ (Ne.symm N2.out)).trans ((BD.out.cell (p := ⟨b2, o2 + k, none⟩) L2).trans c2)), (World.cell?_setCell_far _ _ _ _ (Ne.symm N3.out)).trans ((World.cell?_setCell_far _ _ _ _ (Ne.symm N3.out)).trans ((BD.out.cell (p := ⟨b3, o3 + k * 3, none⟩) L3).trans c3)), (World.cell?_setCell_far _ _ _ _ (Ne.symm N3.out)).trans ((World.cell?_setCell_far _ _ _ _ (Ne.symm N3.out)).trans ((BD.out.cell (p := ⟨b3, o3 + k * 3 + 1, none⟩) L4).trans c4)), (World.cell?_setCell_far _ _ _ _ (Ne.symm N3.out)).trans ((World.cell?_setCell_far _ _ _ _ (Ne.symm N3.out)).trans ((BD.out.cell (p := ⟨b3, o3 + k * 3 + 2, none⟩) L5).trans c5))⟩ (fun hHeld => ?_)
          clear hK K
          try simp only [Act.put, List.setIfInBounds_toArray, List.set_cons_zero, List.set_cons_succ]
          refine wpAnyH_done (by kernel_rfl) ?_ _
          refine NoPanic.normal ?_
          clear hHeld
          go_wp2_with fail
          go_roundg (n - (k + 1))
          case measure => have := HG.out; have := KN.out; omega
          case rel => exact ⟨k + 1, by have := KN.out; omega, rfl, by go_num, F3, B3⟩
        exact AllReadyH.nil
      exact AllReadyH.nil
    · obtain rfl : k = n := by omega
      go_wp2_with fail
      go_ret
      exact ⟨some ⟨g, 0, none⟩, k, k, rfl, LO.out.symm, FK.out.done LO.out, BK.out, Nat.le_refl _, by unfold maxLen; omega⟩

set_option maxHeartbeats 4000000 in
set_option maxRecDepth 100000 in
theorem closes12 (a : Int) (A B : Option Addr) (cA cB na nb : Nat) (ps : List On) (ts : List Tp) (w : World) (ho : Rg oncells w A ps) (ht : Rg tpcells w B ts) (lo : na = ps.length) (lt : nb = ts.length) (hn : na ≤ 1000000) :
    Calls Try.prog 50 #[.int .i64 a, .slice A na cA, .slice B nb cB] w (RowTo ucells (closesU a ps ts) w) := by
  obtain ⟨i0, hi, hz0, hz1, hz2⟩ := info_parts Try.info23
  obtain ⟨n, hN⟩ : ∃ n, n = min na nb := ⟨_, rfl⟩
  have hmin : ∀ (ts : Array TypeId) (t : TypeId) (w : World), (Builtin.min_ ts t #[.int .i64 (na : Int), .int .i64 (nb : Int)]).run Try.prog w = .ok (.int .i64 (n : Int)) w := by
    intro ts t w
    simp [Builtin.min_, Builtin.min2]
    repeat' split
    all_goals omega
  have n6 : n ≤ 1000000 := by omega
  have hmk : ∀ w : World, (Instr.makeSlice 22 (.int .i64 (n : Int)) (.int .i64 (n : Int))).run Try.prog w = .ok (.slice (some ⟨w.heap.size, 0, none⟩) n n) (w.alloc (.cells (madeCells #[.int .u64 0] n) 23)) := fun w => by
    have := run_make (P := Try.prog) w 22 23 i0 _ Try.underlying22 hi hz0 .i64 .i64 (n : Int) (n : Int) (by omega) (Int.le_refl _) (by rw [hz2]; omega) (by omega)
    rw [hz1, Nat.mul_one] at this
    exact this
  obtain ⟨us, hus⟩ : ∃ us, us = closesU a ps ts := ⟨_, rfl⟩
  have LO : Hid (us.length = n) := by show _ = _; rw [hus, closes_many, ← lo, ← lt, hN]
  rw [← hus]
  have NA : Hid (n ≤ na) := by show n ≤ na; omega
  have NB : Hid (n ≤ nb) := by show n ≤ nb; omega
  have HP := Lib.hid ho; have LP := Lib.hid lo; have HT := Lib.hid ht; have LT := Lib.hid lt
  have HO := Lib.hid hus
  clear ho lo ht lt hN hus hn
  go_enter Try.func50, Try.ntmps50
  go_wp2_with fail
  obtain ⟨g, hg⟩ : ∃ g, g = w.heap.size := ⟨_, rfl⟩
  obtain ⟨W, hW⟩ : ∃ W, W = w.alloc (.cells (madeCells #[.int .u64 0] n) 23) := ⟨_, rfl⟩
  have F0 : Hid (SB9 W g n 0 us) := by rw [hW, hg]; exact SB9.start w n _
  have B0 : Hid (Below w.heap.size w W) := by rw [hW]; exact (Below.refl _ w).alloc (Nat.le_refl _) _
  have gl : w.heap.size ≤ g := by omega
  rw [← hW, ← hg]
  clear hW hg hi hz0 hz1 hz2 hmk hmin
  go_loopg [8, 17] n (fun gh _ si wx => ∃ k : Nat, k ≤ n ∧ Hid (gh = n - k) ∧ si = .int .i64 (k : Int) ∧ Hid (SB9 wx g n k us) ∧ Hid (Below w.heap.size w wx))
  case atStart => exact ⟨0, Nat.zero_le _, by show _ = _; omega, rfl, F0, B0⟩
  case round =>
    obtain ⟨k, hk, HG, rfl, FK, BK⟩ := hrel
    by_cases kn : k < n
    · have ki : (k : Int) < (n : Int) := by omega
      have ka : (0 : Int) ≤ (k : Int) := by omega
      have kna : k < na := Nat.lt_of_lt_of_le kn NA.out
      have knb : k < nb := Nat.lt_of_lt_of_le kn NB.out
      have kia : (k : Int) < (na : Int) := by omega
      have kib : (k : Int) < (nb : Int) := by omega
      obtain ⟨o, go⟩ := k_get kna (Nat.le_of_eq LP.out)
      obtain ⟨t, gt⟩ := k_get knb (Nat.le_of_eq LT.out)
      obtain ⟨b1, o1, rfl, l1, q1⟩ := HP.out (by rw [← LP.out]; omega)
      obtain ⟨b3, o3, rfl, l3, q3⟩ := HT.out (by rw [← LT.out]; omega)
      obtain ⟨s1, s2⟩ := on_cells q1 go
      have c1 := (BK.out.cell (p := ⟨b1, o1 + k * 2, none⟩) l1).trans s1
      have c2 := (BK.out.cell (p := ⟨b1, o1 + k * 2 + 1, none⟩) l1).trans s2
      obtain ⟨t1, t2, t3⟩ := tp_cells q3 gt
      have c3 := (BK.out.cell (p := ⟨b3, o3 + k * 3, none⟩) l3).trans t1
      have c4 := (BK.out.cell (p := ⟨b3, o3 + k * 3 + 1, none⟩) l3).trans t2
      have c5 := (BK.out.cell (p := ⟨b3, o3 + k * 3 + 2, none⟩) l3).trans t3
      obtain ⟨c, hc⟩ : ∃ c, c = closeU a o t := ⟨_, rfl⟩
      have GX : Hid (us[k]? = some c) := by show _ = _; rw [HO.out, hc]; exact closes_at go gt
      have KN : Hid (k < n) := kn
      have CN : Hid (∀ w, Calls Try.prog 47 #[.int .i64 a, .agg #[.int .u64 (uz o.d), .int .u64 (uz o.e)], .agg #[.int .u64 (uz t.a), .int .u64 (uz t.b), .int .u64 (uz t.c)]] w fun e w' => e = .returned (.int .u64 (uz c)) ∧ Below w.heap.size w w') := fun w => by rw [hc]; exact close12 a o t w
      have L1 : b1 < wr.heap.size := Nat.lt_of_lt_of_le l1 BK.out.size
      have L2 := L1
      have L3 : b3 < wr.heap.size := Nat.lt_of_lt_of_le l3 BK.out.size
      have L4 := L3
      have L5 := L3
      have N1 : b1 ≠ g := by have : b1 < w.heap.size := l1; omega
      have N3 : b3 ≠ g := by have : b3 < w.heap.size := l3; omega
      have N1 := Lib.hid N1; have N3 := Lib.hid N3
      clear hc go gt q1 q3 s1 s2 t1 t2 t3 l1 l3
      go_wp2_with fail
      refine wp_region_noPanic ?_
      refine wp_region_held_drew (S := fun w' => w'.cell? ⟨b1, o1 + k * 2, none⟩ = some (.int .u64 (uz o.d)) ∧ w'.cell? ⟨b1, o1 + k * 2 + 1, none⟩ = some (.int .u64 (uz o.e)) ∧ w'.cell? ⟨b3, o3 + k * 3, none⟩ = some (.int .u64 (uz t.a)) ∧ w'.cell? ⟨b3, o3 + k * 3 + 1, none⟩ = some (.int .u64 (uz t.b)) ∧ w'.cell? ⟨b3, o3 + k * 3 + 2, none⟩ = some (.int .u64 (uz t.c))) (by kernel_rfl) ⟨c1, c2, c3, c4, c5⟩ (fun hHeld => ?_)
      have hd := below_drew wr
      replace c1 := (hd.cell (p := ⟨b1, o1 + k * 2, none⟩) L1).trans c1
      replace L1 := Nat.lt_of_lt_of_le L1 hd.size
      replace c2 := (hd.cell (p := ⟨b1, o1 + k * 2 + 1, none⟩) L2).trans c2
      replace L2 := Nat.lt_of_lt_of_le L2 hd.size
      replace c3 := (hd.cell (p := ⟨b3, o3 + k * 3, none⟩) L3).trans c3
      replace L3 := Nat.lt_of_lt_of_le L3 hd.size
      replace c4 := (hd.cell (p := ⟨b3, o3 + k * 3 + 1, none⟩) L4).trans c4
      replace L4 := Nat.lt_of_lt_of_le L4 hd.size
      replace c5 := (hd.cell (p := ⟨b3, o3 + k * 3 + 2, none⟩) L5).trans c5
      replace L5 := Nat.lt_of_lt_of_le L5 hd.size
      generalize wr.drew = wq1 at hHeld hd c1 L1 c2 L2 c3 L3 c4 L4 c5 L5 ⊢
      have BD : Hid (Below wq1.heap.size wq1 wq1) := Below.refl _ _
      refine wpAnyH_take (i := 0) (v := ?vv2001) (by simp only [List.getElem?_toArray, List.getElem?_cons_zero]; rfl) (by kernel_rfl) (by kernel_rfl) (by kernel_rfl) (fun _ _ _ h => h) (Or.inl ⟨by rfl, ?yy2001⟩) (by assumption) ?rr2001
      case yy2001 => (intro w hSw; (try dsimp only at hSw); go_simp; first | done | with_reducible rfl)
      simp only [Act.put, List.setIfInBounds_toArray, List.set_cons_zero, List.set_cons_succ]
      refine wpAnyH_take (i := 1) (v := ?vv2002) (by simp only [List.getElem?_toArray, List.getElem?_cons_zero, List.getElem?_cons_succ]; rfl) (by kernel_rfl) (by kernel_rfl) (by kernel_rfl) (fun _ _ _ h => h) (Or.inl ⟨by rfl, ?yy2002⟩) (by assumption) ?rr2002
      case yy2002 => (intro w hSw; (try dsimp only at hSw); go_simp; first | done | with_reducible rfl)
      simp only [Act.put, List.setIfInBounds_toArray, List.set_cons_zero, List.set_cons_succ]
      refine wpAnyH_take (i := 2) (v := ?vv2003) (by simp only [List.getElem?_toArray, List.getElem?_cons_zero, List.getElem?_cons_succ]; rfl) (by kernel_rfl) (by kernel_rfl) (by kernel_rfl) (fun _ _ _ h => h) (Or.inl ⟨by rfl, ?yy2003⟩) (by assumption) ?rr2003
      case yy2003 => (intro w hSw; (try dsimp only at hSw); go_simp; first | done | with_reducible rfl)
      simp only [Act.put, List.setIfInBounds_toArray, List.set_cons_zero, List.set_cons_succ]
      refine wpAnyH_take (i := 3) (v := ?vv2004) (by simp only [List.getElem?_toArray, List.getElem?_cons_zero, List.getElem?_cons_succ]; rfl) (by kernel_rfl) (by kernel_rfl) (by kernel_rfl) (fun _ _ _ h => h) (Or.inl ⟨by rfl, ?yy2004⟩) (by assumption) ?rr2004
      case yy2004 => (intro w hSw; (try dsimp only at hSw); go_simp; first | done | with_reducible rfl)
      simp only [Act.put, List.setIfInBounds_toArray, List.set_cons_zero, List.set_cons_succ]
      refine wpAnyH_take (i := 4) (v := ?vv2005) (by simp only [List.getElem?_toArray, List.getElem?_cons_zero, List.getElem?_cons_succ]; rfl) (by kernel_rfl) (by kernel_rfl) (by kernel_rfl) (fun _ _ _ h => h) (Or.inl ⟨by rfl, ?yy2005⟩) (by assumption) ?rr2005
      case yy2005 => (intro w hSw; (try dsimp only at hSw); go_simp; first | done | with_reducible rfl)
      simp only [Act.put, List.setIfInBounds_toArray, List.set_cons_zero, List.set_cons_succ]
      refine wpAnyH_take (i := 5) (v := ?vv2006) (by simp only [List.getElem?_toArray, List.getElem?_cons_zero, List.getElem?_cons_succ]; rfl) (by kernel_rfl) (by kernel_rfl) (by kernel_rfl) (fun _ _ _ h => h) (Or.inl ⟨by rfl, ?yy2006⟩) (by assumption) ?rr2006
      case yy2006 => (intro w hSw; (try dsimp only at hSw); go_simp; first | done | with_reducible rfl)
      simp only [Act.put, List.setIfInBounds_toArray, List.set_cons_zero, List.set_cons_succ]
      refine wpAnyH_take (i := 6) (v := ?vv2007) (by simp only [List.getElem?_toArray, List.getElem?_cons_zero, List.getElem?_cons_succ]; rfl) (by kernel_rfl) (by kernel_rfl) (by kernel_rfl) (fun _ _ _ h => h) (Or.inl ⟨by rfl, ?yy2007⟩) (by assumption) ?rr2007
      case yy2007 => (intro w hSw; (try dsimp only at hSw); go_simp; first | done | with_reducible rfl)
      simp only [Act.put, List.setIfInBounds_toArray, List.set_cons_zero, List.set_cons_succ]
      refine wpAnyH_take (i := 7) (v := ?vv2008) (by simp only [List.getElem?_toArray, List.getElem?_cons_zero, List.getElem?_cons_succ]; rfl) (by kernel_rfl) (by kernel_rfl) (by kernel_rfl) (fun _ _ _ h => h) (Or.inl ⟨by rfl, ?yy2008⟩) (by assumption) ?rr2008
      case yy2008 => (intro w hSw; (try dsimp only at hSw); go_simp; first | done | with_reducible rfl)
      simp only [Act.put, List.setIfInBounds_toArray, List.set_cons_zero, List.set_cons_succ]
      refine wpAnyH_take (i := 8) (v := ?vv2009) (by simp only [List.getElem?_toArray, List.getElem?_cons_zero, List.getElem?_cons_succ]; rfl) (by kernel_rfl) (by kernel_rfl) (by kernel_rfl) (fun _ _ _ h => h) (Or.inl ⟨by rfl, ?yy2009⟩) (by assumption) ?rr2009
      case yy2009 => (intro w hSw; (try dsimp only at hSw); go_simp; first | done | with_reducible rfl)
      simp only [Act.put, List.setIfInBounds_toArray, List.set_cons_zero, List.set_cons_succ]
      refine wpAnyH_take (i := 9) (v := ?vv2010) (by simp only [List.getElem?_toArray, List.getElem?_cons_zero, List.getElem?_cons_succ]; rfl) (by kernel_rfl) (by kernel_rfl) (by kernel_rfl) (fun _ _ _ h => h) (Or.inl ⟨by rfl, ?yy2010⟩) (by assumption) ?rr2010
      case yy2010 => (intro w hSw; (try dsimp only at hSw); go_simp; first | done | with_reducible rfl)
      simp only [Act.put, List.setIfInBounds_toArray, List.set_cons_zero, List.set_cons_succ]
      refine wpAnyH_take (i := 10) (v := ?vv2011) (by simp only [List.getElem?_toArray, List.getElem?_cons_zero, List.getElem?_cons_succ]; rfl) (by kernel_rfl) (by kernel_rfl) (by kernel_rfl) (fun _ _ _ h => h) (Or.inl ⟨by rfl, ?yy2011⟩) (by assumption) ?rr2011
      case yy2011 => (intro w hSw; (try dsimp only at hSw); go_simp; first | done | with_reducible rfl)
      simp only [Act.put, List.setIfInBounds_toArray, List.set_cons_zero, List.set_cons_succ]
      refine wpAnyH_ready (rs := [11]) (by kernel_rfl) (by simp) ?_
      refine AllReadyH.cons (by simp only [List.getElem?_toArray, List.getElem?_cons_zero, List.getElem?_cons_succ]; rfl) (fun K hK => ?_) ?_
      · skip
        go_simp
        go_at_call 47
        (with_reducible refine (CN.out _).mono ?_)
        rintro e wq2 ⟨rfl, hb⟩
        clear hHeld
        replace BD := Lib.hid (chain BD.out hb)
        clear hb
        go_wp2_with fail
        refine hK.out _ _ ⟨(BD.out.cell (p := ⟨b1, o1 + k * 2, none⟩) L1).trans c1, (BD.out.cell (p := ⟨b1, o1 + k * 2 + 1, none⟩) L2).trans c2, (BD.out.cell (p := ⟨b3, o3 + k * 3, none⟩) L3).trans c3, (BD.out.cell (p := ⟨b3, o3 + k * 3 + 1, none⟩) L4).trans c4, (BD.out.cell (p := ⟨b3, o3 + k * 3 + 2, none⟩) L5).trans c5⟩ (fun hHeld => ?_)
        clear hK K
        try simp only [Act.put, List.setIfInBounds_toArray, List.set_cons_zero, List.set_cons_succ]
        refine wpAnyH_take (i := 12) (v := ?vv2012) (by simp only [List.getElem?_toArray, List.getElem?_cons_zero, List.getElem?_cons_succ]; rfl) (by kernel_rfl) (by kernel_rfl) (by kernel_rfl) (fun _ _ _ h => h) (Or.inl ⟨by rfl, ?yy2012⟩) (by assumption) ?rr2012
        case yy2012 => (intro w hSw; (try dsimp only at hSw); go_simp; first | done | with_reducible rfl)
        simp only [Act.put, List.setIfInBounds_toArray, List.set_cons_zero, List.set_cons_succ]
        refine wpAnyH_ready (rs := [13]) (by kernel_rfl) (by simp) ?_
        refine AllReadyH.cons (by simp only [List.getElem?_toArray, List.getElem?_cons_zero, List.getElem?_cons_succ]; rfl) (fun K hK => ?_) ?_
        · skip
          have FW := Lib.hid ((FK.out.below hd).below BD.out)
          have BW := Lib.hid (chain (chain BK.out hd) BD.out)
          obtain ⟨⟨v, d0⟩, p0⟩ := FW.out.facts KN.out
          go_simp
          clear hHeld
          have F3 := Lib.hid (FW.out.step KN.out GX.out)
          have B3 := Lib.hid (BW.out.setCell (p := ⟨g, k, none⟩) gl (.int .u64 (uz c)))
          refine hK.out _ _ ⟨(World.cell?_setCell_far _ _ _ _ (Ne.symm N1.out)).trans ((BD.out.cell (p := ⟨b1, o1 + k * 2, none⟩) L1).trans c1), (World.cell?_setCell_far _ _ _ _ (Ne.symm N1.out)).trans ((BD.out.cell (p := ⟨b1, o1 + k * 2 + 1, none⟩) L2).trans c2), (World.cell?_setCell_far _ _ _ _ (Ne.symm N3.out)).trans ((BD.out.cell (p := ⟨b3, o3 + k * 3, none⟩) L3).trans c3), (World.cell?_setCell_far _ _ _ _ (Ne.symm N3.out)).trans ((BD.out.cell (p := ⟨b3, o3 + k * 3 + 1, none⟩) L4).trans c4), (World.cell?_setCell_far _ _ _ _ (Ne.symm N3.out)).trans ((BD.out.cell (p := ⟨b3, o3 + k * 3 + 2, none⟩) L5).trans c5)⟩ (fun hHeld => ?_)
          clear hK K
          try simp only [Act.put, List.setIfInBounds_toArray, List.set_cons_zero, List.set_cons_succ]
          refine wpAnyH_done (by kernel_rfl) ?_ _
          refine NoPanic.normal ?_
          clear hHeld
          go_wp2_with fail
          go_roundg (n - (k + 1))
          case measure => have := HG.out; have := KN.out; omega
          case rel => exact ⟨k + 1, by have := KN.out; omega, rfl, by go_num, F3, B3⟩
        exact AllReadyH.nil
      exact AllReadyH.nil
    · obtain rfl : k = n := by omega
      go_wp2_with fail
      go_ret
      exact ⟨some ⟨g, 0, none⟩, k, k, rfl, LO.out.symm, FK.out.done LO.out, BK.out, Nat.le_refl _, by unfold maxLen; omega⟩

end Go.Proofs.Ytggbhoanffdjbaa
