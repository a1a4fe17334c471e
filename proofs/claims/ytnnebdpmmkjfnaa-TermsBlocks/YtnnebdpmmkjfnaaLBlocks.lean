/-
  TermsBlocks: the parts of a Pool are all places that go in, each once, as many for each place that comes out.
-/
import Derived.Test.YtnnebdpmmkjfnaaLCount
import Derived.Test.YtnnebdpmmkjfnaaTPool
namespace Go.Proofs.Ytnnebdpmmkjfnaa
open Go.RowKit

/-- Numbers that are counted in a row of one's own. -/
def MB (w : World) (g : Nat) (n : Nat) (f : Nat → Nat) : Prop :=
  ∃ cs : Array Value, w.heap[g]? = some (.cells cs 3 (0, 0)) ∧ cs.size = n ∧ ∀ v, v < n → cs[v]? = some (.int .i64 (f v : Nat))
theorem MB.start (w : World) (n : Nat) : MB (w.alloc (.cells (madeCells #[.int .i64 0] n) 3)) w.heap.size n (fun _ => 0) := by
  refine ⟨_, heap_alloc_new w _, size_madeCells _ _, fun j hj => ?_⟩
  simp [madeCells, hj, Nat.mod_one]
theorem MB.lt {w : World} {g n : Nat} {f : Nat → Nat} (h : MB w g n f) : g < w.heap.size := by
  obtain ⟨cs, h1, _⟩ := h
  exact (Array.getElem?_eq_some_iff.1 h1).1
theorem MB.below {w w' : World} {g n : Nat} {f : Nat → Nat} (h : MB w g n f) (hb : Below w.heap.size w w') : MB w' g n f := by
  have hl := h.lt
  obtain ⟨cs, h1, h2, h3⟩ := h
  exact ⟨cs, (hb.block g hl).trans h1, h2, h3⟩
theorem MB.same {w : World} {g n : Nat} {f f' : Nat → Nat} (h : MB w g n f) (e : ∀ v, v < n → f v = f' v) : MB w g n f' := by
  obtain ⟨cs, h1, h2, h3⟩ := h
  exact ⟨cs, h1, h2, fun v hv => by rw [h3 v hv, e v hv]⟩
theorem MB.cell {w : World} {g n : Nat} {f : Nat → Nat} (h : MB w g n f) {v : Nat} (hv : v < n) : w.cell? ⟨g, v, none⟩ = some (.int .i64 (f v : Nat)) ∧ ∀ i, w.frozen? ⟨g, i, none⟩ = false := by
  obtain ⟨cs, h1, h2, h3⟩ := h
  exact ⟨by rw [Lib.cell_of_heap h1]; exact h3 v hv, fun i => Lib.frozen_of_heap h1 i⟩
theorem MB.step {w : World} {g n : Nat} {f : Nat → Nat} (h : MB w g n f) {v : Nat} (hv : v < n) : MB (w.setCell ⟨g, v, none⟩ (.int .i64 ((f v : Nat) + 1))) g n (fun u => f u + if u = v then 1 else 0) := by
  obtain ⟨cs, h1, h2, h3⟩ := h
  refine ⟨_, Lib.heap_setCell_same h1 _, by simp [h2], fun u hu => ?_⟩
  show _ = some (Value.int .i64 ((f u + if u = v then 1 else 0 : Nat) : Int))
  by_cases e : u = v
  · subst e
    rw [if_pos rfl, Array.getElem?_setIfInBounds_self_of_lt (by omega)]; rfl
  · rw [if_neg e, Array.getElem?_setIfInBounds_ne (fun h => e h.symm)]
    exact h3 u hu
theorem i_cells {w : World} {b off : Nat} {xs : List Int} (h : ∀ j u, (xs.flatMap icells)[j]? = some u → w.cell? ⟨b, off + j, none⟩ = some u) {k : Nat} {t : Int} (ht : xs[k]? = some t) :
    w.cell? ⟨b, off + k, none⟩ = some (.int .i64 t) := by
  have q := Rg.at icells_len h ht 0 _ rfl
  rwa [Nat.mul_one] at q

/-! ### Which block a place is of -/
theorem at_iff {s : Sh} {c y x v : Int} (hi : insideB s.c s.h s.x c y x = true) (hv : hasB s.c s.h s.x v = true) : atI s.c s.h s.x c y x = v ↔ c = chI s.c s.h s.x v ∧ y = rowI s.c s.h s.x v ∧ x = colI s.c s.h s.x v := by
  obtain ⟨e1, e2, e3⟩ := of_yes hv
  rw [atI_yes hi]
  constructor
  · intro h
    obtain ⟨_, q1, q2, q3⟩ := at_of hi
    rw [h] at q1 q2 q3
    rw [e1, e2, e3]
    exact ⟨q1.symm, q2.symm, q3.symm⟩
  · rintro ⟨rfl, rfl, rfl⟩
    rw [e1, e2, e3]
    exact (of_at hv).2
theorem row_count {s : Sh} {c y x v : Int} (hv : hasB s.c s.h s.x v = true) : ∀ m : Nat, (∀ q : Nat, q < m → insideB s.c s.h s.x c y (x + q) = true) →
    (rowL s c y x m).count v = if c = chI s.c s.h s.x v ∧ y = rowI s.c s.h s.x v ∧ x ≤ colI s.c s.h s.x v ∧ colI s.c s.h s.x v < x + m then 1 else 0
  | 0, _ => by rw [if_neg (by omega)]; simp [rowL]
  | m + 1, h => by
    rw [row_next, List.count_append, row_count hv m fun q hq => h q (by omega), List.count_singleton]
    have e := at_iff (h m (by omega)) hv
    by_cases h1 : atI s.c s.h s.x c y (x + (m : Nat)) = v
    · obtain ⟨e1, e2, e3⟩ := e.1 h1
      rw [if_neg (show ¬ (c = chI s.c s.h s.x v ∧ y = rowI s.c s.h s.x v ∧ x ≤ colI s.c s.h s.x v ∧ colI s.c s.h s.x v < x + (m : Nat)) by omega), if_pos (show (atI s.c s.h s.x c y (x + (m : Nat)) == v) = true from beq_iff_eq.2 h1), if_pos (show c = chI s.c s.h s.x v ∧ y = rowI s.c s.h s.x v ∧ x ≤ colI s.c s.h s.x v ∧ colI s.c s.h s.x v < x + ((m + 1 : Nat) : Int) from ⟨e1, e2, by omega, by omega⟩)]
    · have h2 : ¬ (c = chI s.c s.h s.x v ∧ y = rowI s.c s.h s.x v ∧ x + (m : Nat) = colI s.c s.h s.x v) := fun q => h1 (e.2 q)
      rw [if_neg (show ¬ (atI s.c s.h s.x c y (x + (m : Nat)) == v) = true from fun q => h1 (beq_iff_eq.1 q))]
      by_cases h3 : c = chI s.c s.h s.x v ∧ y = rowI s.c s.h s.x v ∧ x ≤ colI s.c s.h s.x v ∧ colI s.c s.h s.x v < x + (m : Nat)
      · rw [if_pos h3, if_pos (show c = chI s.c s.h s.x v ∧ y = rowI s.c s.h s.x v ∧ x ≤ colI s.c s.h s.x v ∧ colI s.c s.h s.x v < x + ((m + 1 : Nat) : Int) from ⟨h3.1, h3.2.1, h3.2.2.1, by omega⟩)]
      · rw [if_neg h3, if_neg (show ¬ (c = chI s.c s.h s.x v ∧ y = rowI s.c s.h s.x v ∧ x ≤ colI s.c s.h s.x v ∧ colI s.c s.h s.x v < x + ((m + 1 : Nat) : Int)) from fun q => by
          by_cases hc : x + (m : Nat) = colI s.c s.h s.x v
          · exact h2 ⟨q.1, q.2.1, hc⟩
          · exact h3 ⟨q.1, q.2.1, q.2.2.1, by omega⟩)]
theorem win_count {s : Sh} {c y x v : Int} {m : Nat} (hv : hasB s.c s.h s.x v = true) : ∀ r : Nat, (∀ i q : Nat, i < r → q < m → insideB s.c s.h s.x c (y + i) (x + q) = true) →
    (winR s c y x m r).count v = if c = chI s.c s.h s.x v ∧ (y ≤ rowI s.c s.h s.x v ∧ rowI s.c s.h s.x v < y + r) ∧ x ≤ colI s.c s.h s.x v ∧ colI s.c s.h s.x v < x + m then 1 else 0
  | 0, _ => by rw [if_neg (by omega)]; simp [winR]
  | r + 1, h => by
    rw [win_next, List.count_append, win_count hv r fun i q hi hq => h i q (by omega) hq, row_count hv m fun q hq => h r q (by omega) hq]
    by_cases h1 : c = chI s.c s.h s.x v ∧ x ≤ colI s.c s.h s.x v ∧ colI s.c s.h s.x v < x + m
    · by_cases h2 : y + (r : Nat) = rowI s.c s.h s.x v
      · rw [if_neg (by omega), if_pos ⟨h1.1, h2, h1.2.1, h1.2.2⟩, if_pos ⟨h1.1, by omega, h1.2.1, h1.2.2⟩]
      · by_cases h3 : y ≤ rowI s.c s.h s.x v ∧ rowI s.c s.h s.x v < y + r
        · rw [if_pos ⟨h1.1, h3, h1.2⟩, if_neg (fun q => h2 q.2.1), if_pos ⟨h1.1, by omega, h1.2⟩]
        · rw [if_neg (fun q => h3 q.2.1), if_neg (fun q => h2 q.2.1), if_neg (fun q => by have := q.2.1; omega)]
    · rw [if_neg (fun q => h1 ⟨q.1, q.2.2⟩), if_neg (fun q => h1 ⟨q.1, q.2.2⟩), if_neg (fun q => h1 ⟨q.1, q.2.2⟩)]
theorem div_seg {a s y : Int} (hs : 0 < s) : (y * s ≤ a ∧ a < y * s + s) ↔ y = a / s := by
  constructor
  · rintro ⟨h1, h2⟩
    have a1 : y ≤ a / s := (Int.le_ediv_iff_mul_le hs).2 h1
    have a2 : a / s < y + 1 := (Int.ediv_lt_iff_lt_mul hs).2 (by rw [Int.add_mul, Int.one_mul]; exact h2)
    omega
  · rintro rfl
    have h1 := Int.ediv_mul_le a (show s ≠ 0 by omega)
    have h2 := Int.lt_ediv_add_one_mul_self a hs
    rw [Int.add_mul, Int.one_mul] at h2
    exact ⟨h1, h2⟩
/-- The block that a place is of. -/
def blockK (K : Kn) (v : Int) : Int := (chI K.i.c K.i.h K.i.x v * K.u.h + rowI K.i.c K.i.h K.i.x v / K.l.s) * K.u.x + colI K.i.c K.i.h K.i.x v / K.l.s
theorem pool_in {K : Kn} (g : Good K) (k : K.l.k = 3) {p : Int} (hp : hasK K p = true) {r q : Nat} (hr : (r : Int) < K.l.s) (hq : (q : Int) < K.l.s) :
    insideB K.i.c K.i.h K.i.x (chI K.u.c K.u.h K.u.x p) (rowI K.u.c K.u.h K.u.x p * K.l.s + r) (colI K.u.c K.u.h K.u.x p * K.l.s + q) = true := by
  obtain ⟨s1, d1, d2, hu⟩ := g.pool k
  obtain ⟨⟨c0, c1⟩, ⟨r0, r1⟩, ⟨q0, q1⟩⟩ := of_bd (s := K.u) hp
  have hc : K.u.c = K.i.c := by rw [hu]
  have hh : K.u.h = K.i.h / K.l.s := by rw [hu]
  have hx : K.u.x = K.i.x / K.l.s := by rw [hu]
  have b1 : (rowI K.u.c K.u.h K.u.x p + 1) * K.l.s ≤ K.i.h := by
    have h1 : (rowI K.u.c K.u.h K.u.x p + 1) * K.l.s ≤ K.i.h / K.l.s * K.l.s := Int.mul_le_mul_of_nonneg_right (by rw [← hh]; omega) (by omega)
    have h2 := Int.ediv_mul_le K.i.h (show K.l.s ≠ 0 by omega)
    omega
  have b2 : (colI K.u.c K.u.h K.u.x p + 1) * K.l.s ≤ K.i.x := by
    have h1 : (colI K.u.c K.u.h K.u.x p + 1) * K.l.s ≤ K.i.x / K.l.s * K.l.s := Int.mul_le_mul_of_nonneg_right (by rw [← hx]; omega) (by omega)
    have h2 := Int.ediv_mul_le K.i.x (show K.l.s ≠ 0 by omega)
    omega
  rw [Int.add_mul, Int.one_mul] at b1 b2
  have c := Int.mul_nonneg r0 (show 0 ≤ K.l.s by omega)
  have d := Int.mul_nonneg q0 (show 0 ≤ K.l.s by omega)
  exact insideB_yes g.2.1 ⟨c0, Int.lt_of_lt_of_le c1 (Int.le_of_eq hc), by omega, by omega, by omega, by omega⟩
theorem block_has {K : Kn} (g : Good K) (k : K.l.k = 3) {v : Int} (hv : hasB K.i.c K.i.h K.i.x v = true) : insideB K.u.c K.u.h K.u.x (chI K.i.c K.i.h K.i.x v) (rowI K.i.c K.i.h K.i.x v / K.l.s) (colI K.i.c K.i.h K.i.x v / K.l.s) = true := by
  obtain ⟨s1, d1, d2, hu⟩ := g.pool k
  obtain ⟨⟨c0, c1⟩, ⟨r0, r1⟩, ⟨q0, q1⟩⟩ := of_bd (s := K.i) hv
  have hc : K.u.c = K.i.c := by rw [hu]
  have hh : K.u.h = K.i.h / K.l.s := by rw [hu]
  have hx : K.u.x = K.i.x / K.l.s := by rw [hu]
  have e1 : K.i.h / K.l.s * K.l.s = K.i.h := Int.ediv_mul_cancel (Int.dvd_of_emod_eq_zero d1)
  have e2 : K.i.x / K.l.s * K.l.s = K.i.x := Int.ediv_mul_cancel (Int.dvd_of_emod_eq_zero d2)
  have b1 : rowI K.i.c K.i.h K.i.x v / K.l.s < K.u.h := by rw [hh]; exact (Int.ediv_lt_iff_lt_mul (by omega)).2 (by rw [e1]; exact r1)
  have b2 : colI K.i.c K.i.h K.i.x v / K.l.s < K.u.x := by rw [hx]; exact (Int.ediv_lt_iff_lt_mul (by omega)).2 (by rw [e2]; exact q1)
  exact insideB_yes g.ur ⟨c0, by rw [hc]; exact c1, Int.ediv_nonneg r0 (by omega), b1, Int.ediv_nonneg q0 (by omega), b2⟩
theorem part_count {K : Kn} (g : Good K) (k : K.l.k = 3) {p v : Int} (hp : hasK K p = true) (hv : hasB K.i.c K.i.h K.i.x v = true) : (partsK K p).count v = if p = blockK K v then 1 else 0 := by
  obtain ⟨s1, d1, d2, hu⟩ := g.pool k
  have hsn : ((K.l.s.toNat : Nat) : Int) = K.l.s := Int.toNat_of_nonneg (by omega)
  unfold partsK
  rw [if_pos k, winL, win_count hv K.l.s.toNat fun i q hi hq => pool_in g k hp (by omega) (by omega), hsn]
  have hb := block_has g k hv
  have e := at_iff (s := K.u) hb hp
  rw [atI_yes hb] at e
  by_cases h : p = blockK K v
  · obtain ⟨e1, e2, e3⟩ := e.1 h.symm
    rw [if_pos h]
    exact if_pos ⟨e1.symm, (div_seg (by omega)).2 e2.symm, (div_seg (by omega)).2 e3.symm⟩
  · rw [if_neg h]
    exact if_neg fun q => h (e.2 ⟨q.1.symm, ((div_seg (by omega)).1 q.2.1).symm, ((div_seg (by omega)).1 q.2.2).symm⟩).symm
def allP (K : Kn) (p : Nat) : List Int := (List.range p).flatMap fun a => partsK K ((a : Nat) : Int)
theorem all_next (K : Kn) (p : Nat) : allP K (p + 1) = allP K p ++ partsK K (p : Nat) := by
  unfold allP; rw [List.range_succ, List.flatMap_append]; simp
theorem all_count {K : Kn} (g : Good K) (k : K.l.k = 3) {v : Int} (hv : hasB K.i.c K.i.h K.i.x v = true) : ∀ p : Nat, (p : Int) ≤ K.u.n → (allP K p).count v = if blockK K v < p then 1 else 0
  | 0, _ => by
    have h0 := (hasB_out (at_of (block_has g k hv)).1).1
    rw [if_neg (by unfold blockK; omega)]; simp [allP]
  | p + 1, h => by
    rw [all_next, List.count_append, all_count g k hv p (by omega), part_count g k (has_yes (by omega) (by omega)) hv]
    by_cases h1 : blockK K v < p
    · rw [if_pos h1, if_neg (by omega), if_pos (by omega)]
    · by_cases h2 : ((p : Nat) : Int) = blockK K v
      · rw [if_neg h1, if_pos h2, if_pos (by omega)]
      · rw [if_neg h1, if_neg h2, if_neg (by omega)]
theorem parts_facts {K : Kn} (g : Good K) (k : K.l.k = 3) {p : Int} (hp : hasK K p = true) : ((partsK K p).length : Int) = K.l.s * K.l.s ∧ ∀ v ∈ partsK K p, 0 ≤ v ∧ v < K.i.n := by
  obtain ⟨s1, d1, d2, hu⟩ := g.pool k
  unfold partsK
  rw [if_pos k]
  refine ⟨?_, fun v hv => ?_⟩
  · rw [winL, win_len, Int.natCast_mul, Int.toNat_of_nonneg (by omega)]
  · obtain ⟨r, q, hr, hq, e⟩ := win_mem.1 hv
    rw [e]
    exact at_in_bd (pool_in g k hp (by omega) (by omega))
theorem pool_side {K : Kn} (g : Good K) (k : K.l.k = 3) : 1 ≤ K.l.s ∧ K.l.s ≤ 12 := by
  obtain ⟨s1, d1, d2, hu⟩ := g.pool k
  obtain ⟨_, _, r3, r4, _⟩ := right_bd g.2.1
  refine ⟨s1, ?_⟩
  by_cases hle : K.l.s ≤ K.i.h
  · omega
  · rw [Int.emod_eq_of_lt (by omega) (by omega)] at d1; omega
theorem take_count {xs : List Int} {j : Nat} {t v : Int} (h : xs[j]? = some t) : (xs.take (j + 1)).count v = (xs.take j).count v + if v = t then 1 else 0 := by
  rw [take_get h, List.count_append, List.count_singleton]
  by_cases e : v = t
  · rw [if_pos e, if_pos (by simpa using e.symm)]
  · rw [if_neg e, if_neg (by simpa using fun h => e h.symm)]
theorem partsN_is {c h x : Int} {ls : List Ly} {i p : Int} (hp : hasK (atN ⟨c, h, x, ls⟩ i) p = true) : partsN ⟨c, h, x, ls⟩ i p = partsK (atN ⟨c, h, x, ls⟩ i) p := if_pos hp

set_option maxHeartbeats 4000000 in
set_option maxRecDepth 100000 in
theorem law_blocks (c h x : Int) (A : Option Addr) (cA n : Nat) (ls : List Ly) (a : Int) (w : World) (hx : Rl w A ls) (ln : n = ls.length) (ba : 0 ≤ a ∧ a ≤ 255) :
    Calls Try.prog 11 #[.agg #[.int .i64 c, .int .i64 h, .int .i64 x, .slice A n cA], .int .u8 a] w fun e w' => e = .returned (.bool true) ∧ Below w.heap.size w w' := by
  have HX := Lib.hid hx; have LX := Lib.hid ln
  clear hx ln
  obtain ⟨ba0, ba1⟩ := ba
  obtain ⟨kk, hkk⟩ : ∃ kk : Nat, a % 8 = kk := ⟨(a % 8).toNat, by omega⟩
  go_enter Try.func11, Try.ntmps11
  go_wp2_with fail
  refine (head6_any _).mono ?_
  rintro e w1 ⟨rfl, hb⟩
  have B1 := Lib.hid (chain ((Below.refl w.heap.size w).alloc (Nat.le_refl _) _) hb)
  have hN := (NB.new w c h x (.slice A n cA)).below hb
  have N1 := Lib.hid hN
  obtain ⟨c0, c1, c2, c3⟩ := hN.cells
  clear hb hN
  by_cases hg : 60 < n
  · have d : decide (60 < (n : Int)) = true := by simp; omega
    go_wp2_with fail
    refine (great_any c h x A cA n _ true d).mono ?_
    rintro e w2 ⟨rfl, hb⟩
    have B2 := Lib.hid (chain B1.out hb)
    clear hb
    go_wp2_with fail
    go_ret
    exact ⟨rfl, B2.out⟩
  have d : decide (60 < (n : Int)) = false := by simp; omega
  have hn : n ≤ 60 := by omega
  have hn1 : n ≤ 1000 := by omega
  go_wp2_with fail
  refine (great_any c h x A cA n _ false d).mono ?_
  rintro e w2 ⟨rfl, hb⟩
  have B2 := Lib.hid (chain B1.out hb)
  have N2 := Lib.hid (N1.out.below hb)
  clear hb B1 N1 c0 c1 c2 c3 hg d
  obtain ⟨c0, c1, c2, c3⟩ := N2.out.cells
  obtain ⟨K, hK⟩ : ∃ K, K = atN ⟨c, h, x, ls⟩ kk := ⟨_, rfl⟩
  obtain ⟨is, his⟩ : ∃ is, is = isB ⟨c, h, x, ls⟩ kk := ⟨_, rfl⟩
  have HK := Lib.hid hK; have HIS := Lib.hid his
  have KZ : Hid (∀ w, Rl w A ls → Calls Try.prog 36 #[.agg #[.int .i64 c, .int .i64 h, .int .i64 x, .slice A n cA], .int .i64 (kk : Int)] w fun e w' => e = .returned (.tuple #[.int .i64 K.i.n, .int .i64 K.u.n, .bool is]) ∧ Below w.heap.size w w') := fun w hx => by
    rw [hK, his]; exact sizes_any c h x A cA n ls kk w hx LX.out hn1
  have KT : Hid (∀ w p ts, termsN ⟨c, h, x, ls⟩ kk p = ts → Rl w A ls → Calls Try.prog 31 #[.agg #[.int .i64 c, .int .i64 h, .int .i64 x, .slice A n cA], .int .i64 (kk : Int), .int .i64 p] w (RowTo tcells ts w)) := fun w p ts hts hx =>
    terms_any c h x A cA n ls kk p ts hts w hx LX.out hn1
  have KS : Hid (∀ w, Rl w A ls → Calls Try.prog 16 #[.agg #[.int .i64 c, .int .i64 h, .int .i64 x, .slice A n cA]] w (ShapesTo ⟨c, h, x, ls⟩ w)) := fun w hx => rshapes_any c h x A cA n ls w hx LX.out hn1
  clear hK his
  go_wp2_with fail
  refine (KZ.out _ (HX.out.below B2.out)).mono ?_
  rintro e w3 ⟨rfl, hb⟩
  have B3 := Lib.hid (chain B2.out hb)
  have N3 := Lib.hid (N2.out.below hb)
  clear hb B2 N2 c0 c1 c2 c3
  obtain ⟨c0, c1, c2, c3⟩ := N3.out.cells
  by_cases hisf : is = false
  · subst hisf
    go_wp2_with fail
    go_ret
    exact ⟨rfl, B3.out⟩
  have hist : is = true := by cases is <;> simp_all
  subst hist
  have GD : Hid (Good K) := by rw [HK.out]; exact good_at HIS.out.symm
  have ISO := Lib.hid (isB_out HIS.out.symm)
  have kkn : kk < n := by have h3 : (kk : Int) < (ls.length : Int) := ISO.out.2.2; have := LX.out; omega
  clear hisf
  obtain ⟨b1, o1, rfl, l1, qL⟩ := HX.out (by rw [← LX.out]; omega)
  have hkl : kk < ls.length := by rw [← LX.out]; exact kkn
  have hlK : ls.getD kk Ly.z = K.l := by rw [HK.out, at_some ISO.out.1 (get_ly hkl)]
  have QL : Hid (∀ w', Below w.heap.size w w' → w'.cell? ⟨b1, o1 + kk * 4, none⟩ = some (.int .i64 K.l.k) ∧ w'.cell? ⟨b1, o1 + kk * 4 + 1, none⟩ = some (.int .i64 K.l.o) ∧ w'.cell? ⟨b1, o1 + kk * 4 + 2, none⟩ = some (.int .i64 K.l.s) ∧ w'.cell? ⟨b1, o1 + kk * 4 + 3, none⟩ = some (.int .i64 K.l.t)) := fun w' hb => by
    have hq := (qL kk hkl).below hb l1
    rw [hlK] at hq
    exact hq
  have KQ : Hid (∀ w p xs, partsN ⟨c, h, x, ls⟩ kk p = xs → Rl w (some ⟨b1, o1, none⟩) ls → Calls Try.prog 34 #[.agg #[.int .i64 c, .int .i64 h, .int .i64 x, .slice (some ⟨b1, o1, none⟩) n cA], .int .i64 (kk : Int), .int .i64 p] w (RowTo icells xs w)) := fun w p xs hxs hx =>
    parts_any c h x _ cA n ls kk p xs hxs w hx LX.out hn1
  obtain ⟨p0, p1, p2, p3⟩ := QL.out _ B3.out
  have ka : (0 : Int) ≤ (kk : Int) := by omega
  have kb : (kk : Int) < (n : Int) := by omega
  clear qL hkl hlK
  by_cases k3 : ¬ K.l.k = 3
  · have d1 : (K.l.k != 3) = true := by simpa using k3
    have P0 : Hid (partsN ⟨c, h, x, ls⟩ kk 0 = []) := by
      show _ = _
      have hh : hasK (atN ⟨c, h, x, ls⟩ kk) 0 = true := by rw [← HK.out]; exact has_yes (by omega) (by have := size_pos GD.out.ur; omega)
      rw [partsN_is hh, ← HK.out]; exact if_neg k3
    clear k3
    go_wp2_with fail
    refine (KQ.out _ 0 [] P0.out (HX.out.below B3.out)).mono ?_
    rintro e w4 ⟨A4, k4, n4, rfl, hn4, hR, hb, hd1, hd2⟩
    obtain rfl : n4 = 0 := hn4
    have B4 := Lib.hid (chain B3.out hb)
    clear hb hR hd1 hd2
    go_wp2_with fail
    go_ret
    exact ⟨rfl, B4.out⟩
  have k3 : K.l.k = 3 := by omega
  have d1 : (K.l.k != 3) = false := by rw [k3]; rfl
  have HK3 := Lib.hid k3
  obtain ⟨ss1, ss2⟩ := pool_side GD.out k3
  have hun := size_bd K.u
  have hin := size_bd K.i
  obtain ⟨un, hu⟩ : ∃ un : Nat, K.u.n = un := ⟨K.u.n.toNat, by omega⟩
  obtain ⟨inn, hi⟩ : ∃ inn : Nat, K.i.n = inn := ⟨K.i.n.toNat, by omega⟩
  obtain ⟨sq, hsq⟩ : ∃ sq : Nat, K.l.s * K.l.s = sq := ⟨(K.l.s * K.l.s).toNat, by have := mul_bd (show 0 ≤ K.l.s by omega) ss2 (show 0 ≤ K.l.s by omega) ss2; omega⟩
  have sqb : sq ≤ 144 := by have := mul_bd (show 0 ≤ K.l.s by omega) ss2 (show 0 ≤ K.l.s by omega) ss2; omega
  have un1 : un ≤ 128 := by omega
  have in1 : inn ≤ 128 := by omega
  have HAS : Hid (∀ p : Nat, p < un → hasK K p = true) := fun p hp => has_yes (by omega) (by omega)
  have HVS : Hid (∀ v : Nat, v < inn → hasB K.i.c K.i.h K.i.x v = true) := fun v hv => hasB_yes (by omega) (by show (v : Int) < K.i.n; omega)
  have TS : Hid (∀ p : Nat, p < un → ∃ xs, partsN ⟨c, h, x, ls⟩ kk p = xs ∧ xs = partsK K p ∧ xs.length = sq ∧ ∀ v ∈ xs, 0 ≤ v ∧ v < (inn : Int)) := fun p hp => by
    have hh := HAS.out p hp
    obtain ⟨f1, f2⟩ := parts_facts GD.out k3 hh
    refine ⟨partsK K p, ?_, rfl, by omega, fun v hv => ?_⟩
    · have := hh; rw [HK.out] at this ⊢; exact partsN_is this
    · have := f2 v hv; omega
  have FIN : Hid (∀ v : Nat, v < inn → (allP K un).count (v : Int) = 1) := fun v hv => by
    have hv2 := HVS.out v hv
    rw [all_count GD.out k3 hv2 un (by omega)]
    have h1 := (hasB_out (at_of (block_has GD.out k3 hv2)).1).2
    exact if_pos (by unfold blockK; have : sizeI K.u.c K.u.h K.u.x = un := hu; omega)
  have HUN : Hid (K.u.n = un) := hu
  rw [hu, hi]
  have V5 : IntKind.i64.wrap (K.l.s * K.l.s) = (sq : Int) := by rw [IntWalk.i64_in _ (by omega)]; exact hsq
  have V6 : wrap64 (K.l.s * K.l.s) = (sq : Int) := by rw [IntWalk.wrap64_in _ (by omega)]; exact hsq
  have HV5 := Lib.hid V5; have HV6 := Lib.hid V6
  obtain ⟨i0, hi0, hz0, hz1, hz2⟩ := info_parts Try.info3
  have hmk : ∀ w : World, (Instr.makeSlice 49 (.int .i64 (inn : Int)) (.int .i64 (inn : Int))).run Try.prog w = .ok (.slice (some ⟨w.heap.size, 0, none⟩) inn inn) (w.alloc (.cells (madeCells #[.int .i64 0] inn) 3)) := fun w => by
    have := run_make (P := Try.prog) w 49 3 i0 _ Try.underlying49 hi0 hz0 .i64 .i64 (inn : Int) (inn : Int) (by omega) (Int.le_refl _) (by rw [hz2]; omega) (by omega)
    rw [hz1, Nat.mul_one] at this
    exact this
  have KQ3 : Hid (∀ w (p : Nat), p < un → Rl w (some ⟨b1, o1, none⟩) ls → Calls Try.prog 34 #[.agg #[.int .i64 c, .int .i64 h, .int .i64 x, .slice (some ⟨b1, o1, none⟩) n cA], .int .i64 (kk : Int), .int .i64 (p : Int)] w fun e w' => ∃ (g k : Nat), e = .returned (.slice (some ⟨g, 0, none⟩) sq k) ∧ (∀ j u, ((partsK K p).flatMap icells)[j]? = some u → w'.cell? ⟨g, 0 + j, none⟩ = some u) ∧ w.heap.size ≤ g ∧ g < w'.heap.size ∧ Below w.heap.size w w') := fun w p hp hx => by
    obtain ⟨xs, _, hxk, hxl, _⟩ := TS.out p hp
    rw [hxk] at hxl
    have hs0 : 0 < sq := by
      have : (1 : Int) ≤ K.l.s * K.l.s := by have := Int.mul_le_mul ss1 ss1 (by omega) (by omega); omega
      omega
    have := parts_pool c h x _ cA n ls kk p K w hx LX.out hn1 HK.out (HAS.out p hp) k3 (by omega)
    rw [hxl] at this
    exact this
  clear hi0 hz0 hz1 hz2
  clear hu hi hsq V5 V6 hun hin k3
  go_wp2_with fail
  obtain ⟨g, hg⟩ : ∃ g, g = w3.heap.size := ⟨_, rfl⟩
  obtain ⟨W, hW⟩ : ∃ W, W = w3.alloc (.cells (madeCells #[.int .i64 0] inn) 3) := ⟨_, rfl⟩
  have M0 : Hid (MB W g inn fun v => (allP K 0).count (v : Int)) := by rw [hW, hg]; exact (MB.start w3 inn).same fun v _ => by simp [allP]
  have BW0 : Hid (Below w.heap.size w W) := by rw [hW]; exact chain_alloc B3.out _
  have NW0 : Hid (NB W w.heap.size c h x (.slice (some ⟨b1, o1, none⟩) n cA)) := by rw [hW]; exact N3.out.alloc _
  have gw : w.heap.size < g := by rw [hg]; exact N3.out.lt
  rw [← hW, ← hg]
  clear hW hg p0 p1 p2 p3 c0 c1 c2 c3 hmk B3 N3
  go_loopg [11, 12, 13] un (fun gh s11 _ _ wx => ∃ p : Nat, p ≤ un ∧ Hid (gh = un - p) ∧ s11 = .int .i64 (p : Int) ∧ Hid (MB wx g inn fun v => (allP K p).count (v : Int)) ∧ Hid (Below w.heap.size w wx) ∧ Hid (NB wx w.heap.size c h x (.slice (some ⟨b1, o1, none⟩) n cA)))
  case atStart => exact ⟨0, by omega, by show _ = _; omega, rfl, M0, BW0, NW0⟩
  case round =>
    obtain ⟨p, hp, HG, rfl, MP, BP, NP⟩ := hrel
    obtain ⟨c0, c1, c2, c3⟩ := NP.out.cells
    by_cases pu : p < un
    · have pi : (p : Int) < (un : Int) := by omega
      obtain ⟨xs, hxs, hxk, hxl, hxr⟩ := TS.out p pu
      have HXL := Lib.hid hxl; have HXR := Lib.hid hxr; have HXK := Lib.hid hxk
      clear hxs hxl hxr hxk
      go_wp2_with fail
      refine (KQ3.out _ p pu (HX.out.below BP.out)).mono ?_
      rintro e w6 ⟨g6, k6, rfl, hR, hge, hgl, hb⟩
      rw [← HXK.out] at hR
      have gne : ¬ g6 = g := by have := MP.out.lt; omega
      have B6 := Lib.hid (chain BP.out hb)
      have N6 := Lib.hid (NP.out.below hb)
      have M6 := Lib.hid (MP.out.below hb)
      have HR := Lib.hid hR
      clear hb hR hge c0 c1 c2 c3
      obtain ⟨c0, c1, c2, c3⟩ := N6.out.cells
      obtain ⟨p0, p1, p2, p3⟩ := QL.out _ B6.out
      have V5 := HV5.out
      have V6 := HV6.out
      go_wp2_with fail
      go_quiet (fail)
      go_wp2_with fail
      clear c0 c1 c2 c3 p0 p1 p2 p3 V5 V6
      generalize hWd : w6.drewN _ = wd
      have RD : Hid (∀ j u, (xs.flatMap icells)[j]? = some u → wd.cell? ⟨g6, 0 + j, none⟩ = some u) := by rw [← hWd]; exact HR.out
      have MD : Hid (MB wd g inn fun v => (allP K p).count (v : Int)) := by rw [← hWd]; exact M6.out
      have BD : Hid (Below w.heap.size w wd) := by rw [← hWd]; exact chain_drewN B6.out _
      have ND : Hid (NB wd w.heap.size c h x (.slice (some ⟨b1, o1, none⟩) n cA)) := by rw [← hWd]; exact N6.out
      clear hWd HR M6 B6 N6
      go_loopg [13] sq (fun gh s13 wx => ∃ j : Nat, j ≤ sq ∧ Hid (gh = sq - j) ∧ s13 = .int .i64 (j : Int) ∧ Hid (MB wx g inn fun v => (allP K p).count (v : Int) + (xs.take j).count (v : Int)) ∧ Hid (Below w.heap.size w wx) ∧ Hid (NB wx w.heap.size c h x (.slice (some ⟨b1, o1, none⟩) n cA)) ∧ Hid (∀ j u, (xs.flatMap icells)[j]? = some u → wx.cell? ⟨g6, 0 + j, none⟩ = some u))
      case atStart => exact ⟨0, by omega, by show _ = _; omega, rfl, MD.out.same fun v _ => by simp, BD, ND, RD⟩
      case round =>
        obtain ⟨j, hj, HG2, rfl, MJ, BJ, NJ, RJ⟩ := hrel
        by_cases jn : j < sq
        · have ji : (j : Int) < (sq : Int) := by omega
          have ja : (0 : Int) ≤ (j : Int) := by omega
          obtain ⟨t, ht⟩ : ∃ t, xs[j]? = some t := ⟨_, List.getElem?_eq_getElem (by rw [HXL.out]; exact jn)⟩
          have z0 := i_cells RJ.out ht
          rw [Nat.zero_add] at z0
          obtain ⟨t0, t1⟩ := HXR.out t (List.mem_of_getElem? ht)
          obtain ⟨v, rfl⟩ : ∃ v : Nat, t = v := ⟨t.toNat, by omega⟩
          have vi : v < inn := by omega
          obtain ⟨z1, fz⟩ := MJ.out.cell vi
          have f0 := fz v
          have d2 : decide ((v : Int) < 0) = false := decide_eq_false (by omega)
          have d3 : decide ((inn : Int) ≤ (v : Int)) = false := decide_eq_false (by omega)
          have d4 : decide (inn ≤ v) = false := decide_eq_false (by omega)
          obtain ⟨ct, hct⟩ : ∃ ct : Nat, (allP K p).count (v : Int) + (xs.take j).count (v : Int) = ct := ⟨_, rfl⟩
          have cb : ct ≤ 100000 := by
            have h1 : (allP K p).count (v : Int) ≤ 1 := by
              rw [all_count GD.out HK3.out (HVS.out v vi) p (by have := HUN.out; omega)]; split <;> omega
            have h2 : (xs.take j).count (v : Int) ≤ j := Nat.le_trans List.count_le_length (by rw [List.length_take]; omega)
            omega
          rw [hct] at z1
          have M7 := Lib.hid (MJ.out.step vi)
          rw [hct] at M7
          have TC := Lib.hid (fun u : Int => take_count (v := u) ht)
          have TV : Hid (xs[j]? = some (v : Int)) := ht
          clear ht fz
          go_wp2_with fail
          go_roundg (sq - (j + 1))
          case measure => have := HG2.out; omega
          case rel =>
            refine ⟨j + 1, by omega, rfl, by go_num, ?_, BJ.out.setCell (p := ⟨g, v, none⟩) (by show w.heap.size ≤ g; omega) _, ?_, ?_⟩
            · refine M7.out.same fun u hu => ?_
              rw [TC.out (u : Int)]
              by_cases e : u = v
              · subst e; rw [if_pos rfl, if_pos rfl]; omega
              · rw [if_neg e, if_neg (show ¬ (u : Int) = (v : Int) by omega)]; omega
            · exact (Below.heap_setCell _ _ _ _ (by show w.heap.size ≠ g; omega)).trans NJ.out
            · intro k u hk
              rw [World.cell?_setCell_other _ _ _ _ (fun e => gne (congrArg Addr.block e).symm)]
              exact RJ.out k u hk
        · obtain rfl : j = sq := by omega
          have MN : Hid (MB _ g inn fun v => (allP K (p + 1)).count (v : Int)) := MJ.out.same fun v _ => by
            rw [all_next, List.count_append, ← HXK.out, ← HXL.out, List.take_length]
          go_wp2_with fail
          go_roundg (un - (p + 1))
          case measure => have := HG.out; omega
          case rel => exact ⟨p + 1, by omega, rfl, by go_num, MN, BJ, NJ⟩
    · obtain rfl : p = un := by omega
      have MF : Hid (MB _ g inn fun _ => 1) := MP.out.same fun v hv => FIN.out v hv
      go_wp2_with fail
      clear c0 c1 c2 c3
      go_loopg [14] inn (fun gh s14 wx => ∃ j : Nat, j ≤ inn ∧ Hid (gh = inn - j) ∧ s14 = .int .i64 (j : Int) ∧ Hid (MB wx g inn fun _ => 1) ∧ Hid (Below w.heap.size w wx))
      case atStart => exact ⟨0, by omega, by show _ = _; omega, rfl, MF, BP⟩
      case round =>
        obtain ⟨j, hj, HG2, rfl, MJ, BJ⟩ := hrel
        by_cases jn : j < inn
        · have ji : (j : Int) < (inn : Int) := by omega
          have ja : (0 : Int) ≤ (j : Int) := by omega
          obtain ⟨z1, _⟩ := MJ.out.cell jn
          go_wp2_with fail
          go_roundg (inn - (j + 1))
          case measure => have := HG2.out; omega
          case rel => exact ⟨j + 1, by omega, rfl, by go_num, MJ, BJ⟩
        · obtain rfl : j = inn := by omega
          go_wp2_with fail
          go_ret
          exact ⟨rfl, BJ.out⟩

end Go.Proofs.Ytnnebdpmmkjfnaa
