/-
  Layers of right networks: is there such a one? Layers of right networks, their terms, how many and of which places: apart from any program.
-/
import Derived.Test.YtnfmpladdfgadaaTPub
namespace Go.Proofs.Ytnfmpladdfgadaa
open Go.RowKit

/-- Is there such a layer of a right network? -/
def isB (N : Nt) (i : Int) : Bool := decide (errN N = 0 ∧ 0 ≤ i ∧ i < (N.ls.length : Int))
theorem isB_yes {N : Nt} {i : Int} (h : errN N = 0 ∧ 0 ≤ i ∧ i < (N.ls.length : Int)) : isB N i = true := decide_eq_true h
theorem isB_out {N : Nt} {i : Int} (h : isB N i = true) : errN N = 0 ∧ 0 ≤ i ∧ i < (N.ls.length : Int) := of_decide_eq_true h
theorem isB_no {N : Nt} {i : Int} (h : ¬ (errN N = 0 ∧ 0 ≤ i ∧ i < (N.ls.length : Int))) : isB N i = false := decide_eq_false h
theorem isB_z {c h x : Int} {ls : List Ly} {i : Int} (e : isB ⟨c, h, x, ls⟩ i = false) : atN ⟨c, h, x, ls⟩ i = Kn.z := by
  by_cases hE : errN ⟨c, h, x, ls⟩ = 0
  · exact at_far fun hi => by rw [isB_yes ⟨hE, hi⟩] at e; cases e
  · exact at_none hE i
theorem kz_i : Kn.z.i.n = 0 := by decide
theorem kz_u : Kn.z.u.n = 0 := by decide

end Go.Proofs.Ytnfmpladdfgadaa

namespace Go.Proofs.Ytnfmpladdfgadaa

/-- A layer of a right network. -/
def Good (K : Kn) : Prop := lyB K.l = true ∧ K.i.r = true ∧ okS K.i K.l = true ∧ K.u = outS K.i K.l ∧ 0 ≤ K.a ∧ K.a ≤ 512
theorem good_at {c h x : Int} {ls : List Ly} {i : Int} (e : isB ⟨c, h, x, ls⟩ i = true) : Good (atN ⟨c, h, x, ls⟩ i) := by
  obtain ⟨hE, h0, h1⟩ := isB_out e
  obtain ⟨j, rfl⟩ : ∃ j : Nat, i = j := ⟨i.toNat, by omega⟩
  have hl := get_ly (show j < ls.length by have : (j : Int) < (ls.length : Int) := h1; omega)
  obtain ⟨a, b, d⟩ := layer_facts hE hl
  rw [at_some hE hl]
  exact ⟨a, b, d, rfl, (sum_all hE j).1, (sum_all hE j).2⟩
theorem Good.kind {K : Kn} (g : Good K) : K.l.k = 1 ∨ K.l.k = 2 ∨ K.l.k = 3 ∨ K.l.k = 4 := ly_kind g.1
theorem Good.ur {K : Kn} (g : Good K) : K.u.r = true := by rw [g.2.2.2.1]; exact out_right g.2.1 g.1 g.2.2.1
theorem Good.conv {K : Kn} (g : Good K) (k : K.l.k = 1) :
    1 ≤ K.l.o ∧ K.l.o ≤ 8 ∧ 1 ≤ K.l.s ∧ K.l.s ≤ K.i.h ∧ K.l.s ≤ K.i.x ∧ 1 ≤ K.l.t ∧ K.l.t ≤ 12 ∧ K.u = ⟨K.l.o, (K.i.h - K.l.s) / K.l.t + 1, (K.i.x - K.l.s) / K.l.t + 1⟩ := by
  have ho := g.2.2.1
  obtain ⟨e1, e2⟩ := out_conv K.i k
  rw [e2] at ho
  obtain ⟨_, o1, o2, s1, s2, t1, t2, _⟩ := convB_out ho
  obtain ⟨c1, c2, c3⟩ := conv_is ho
  refine ⟨o1, o2, s1, by omega, by omega, t1, t2, ?_⟩
  rw [g.2.2.2.1, e1, c1, c2, c3]
theorem Good.square {K : Kn} (g : Good K) (k : K.l.k = 2) : K.u = K.i := by rw [g.2.2.2.1, (out_square K.i k).1]
theorem Good.pool {K : Kn} (g : Good K) (k : K.l.k = 3) :
    1 ≤ K.l.s ∧ K.i.h % K.l.s = 0 ∧ K.i.x % K.l.s = 0 ∧ K.u = ⟨K.i.c, K.i.h / K.l.s, K.i.x / K.l.s⟩ := by
  have ho := g.2.2.1
  obtain ⟨e1, e2⟩ := out_pool K.i k
  rw [e2] at ho
  obtain ⟨_, s1, d1, d2⟩ := poolB_out ho
  obtain ⟨c1, c2, c3⟩ := pool_is ho
  refine ⟨s1, d1, d2, ?_⟩
  rw [g.2.2.2.1, e1, c1, c2, c3]
theorem Good.dense {K : Kn} (g : Good K) (k : K.l.k = 4) : 1 ≤ K.l.o ∧ K.l.o ≤ 8 ∧ K.u = ⟨K.l.o, 1, 1⟩ := by
  have ho := g.2.2.1
  obtain ⟨e1, e2⟩ := out_dense K.i k
  rw [e2] at ho
  obtain ⟨b1, b2, _⟩ := rightB_out ho
  exact ⟨b1, b2, by rw [g.2.2.2.1, e1]⟩
theorem has_bd {K : Kn} {p : Int} (h : hasK K p = true) : 0 ≤ p ∧ p < K.u.n := hasB_out h
theorem has_yes {K : Kn} {p : Int} (h0 : 0 ≤ p) (h1 : p < K.u.n) : hasK K p = true := hasB_yes h0 h1
theorem Sh.n_eq {s : Sh} (h : s.r = true) : s.n = s.c * s.h * s.x := sizeI_yes h

/-! ### Windows -/
theorem win_bd {H s t y : Int} (t1 : 1 ≤ t) (y1 : y < (H - s) / t + 1) : y * t + s ≤ H := by
  have a : y * t ≤ (H - s) / t * t := Int.mul_le_mul_of_nonneg_right (by omega) (by omega)
  have b : (H - s) / t * t ≤ H - s := Int.ediv_mul_le _ (by omega)
  omega
theorem conv_in {K : Kn} (g : Good K) (k : K.l.k = 1) {p : Int} (hp : hasK K p = true) {ci r q : Nat} (hc : (ci : Int) < K.i.c) (hr : (r : Int) < K.l.s) (hq : (q : Int) < K.l.s) :
    insideB K.i.c K.i.h K.i.x ci (rowI K.u.c K.u.h K.u.x p * K.l.t + r) (colI K.u.c K.u.h K.u.x p * K.l.t + q) = true := by
  obtain ⟨o1, o2, s1, s2, s3, t1, t2, hu⟩ := g.conv k
  obtain ⟨_, ⟨r0, r1⟩, ⟨q0, q1⟩⟩ := of_bd (s := K.u) hp
  have hh : K.u.h = (K.i.h - K.l.s) / K.l.t + 1 := by rw [hu]
  have hx : K.u.x = (K.i.x - K.l.s) / K.l.t + 1 := by rw [hu]
  have a := win_bd (H := K.i.h) (s := K.l.s) t1 (Int.lt_of_lt_of_le r1 (Int.le_of_eq hh))
  have b := win_bd (H := K.i.x) (s := K.l.s) t1 (Int.lt_of_lt_of_le q1 (Int.le_of_eq hx))
  have c := Int.mul_nonneg r0 (show 0 ≤ K.l.t by omega)
  have d := Int.mul_nonneg q0 (show 0 ≤ K.l.t by omega)
  exact insideB_yes g.2.1 ⟨by omega, hc, by omega, by omega, by omega, by omega⟩
theorem win_mem {s : Sh} {c y x : Int} {m : Nat} {v : Int} : v ∈ winL s c y x m ↔ ∃ r q : Nat, r < m ∧ q < m ∧ v = atI s.c s.h s.x c (y + r) (x + q) := by
  unfold winL winR rowL
  simp only [List.mem_flatMap, List.mem_range, List.mem_map]
  constructor
  · rintro ⟨r, hr, q, hq, rfl⟩; exact ⟨r, q, hr, hq, rfl⟩
  · rintro ⟨r, q, hr, hq, rfl⟩; exact ⟨r, hr, q, hq, rfl⟩
theorem chan_mem {s : Sh} {y x : Int} {m cs : Nat} {v : Int} : v ∈ chanL s y x m cs ↔ ∃ c r q : Nat, c < cs ∧ r < m ∧ q < m ∧ v = atI s.c s.h s.x c (y + r) (x + q) := by
  unfold chanL
  simp only [List.mem_flatMap, List.mem_range, win_mem]
  constructor
  · rintro ⟨c, hc, r, q, hr, hq, rfl⟩; exact ⟨c, r, q, hc, hr, hq, rfl⟩
  · rintro ⟨c, r, q, hc, hr, hq, rfl⟩; exact ⟨c, hc, r, q, hr, hq, rfl⟩
theorem at_in_bd {c h x k y z : Int} (e : insideB c h x k y z = true) : 0 ≤ atI c h x k y z ∧ atI c h x k y z < sizeI c h x := by
  rw [atI_yes e]
  exact hasB_out (at_of e).1
theorem seq_mem : ∀ (xs : List Int) (b : Int) (t : Tm), t ∈ seqT b xs → ∃ (j : Nat) (x : Int), j < xs.length ∧ xs[j]? = some x ∧ t = ⟨x, b + j⟩
  | [], _, _, h => by simp [seqT] at h
  | y :: ys, b, t, h => by
    simp only [seqT, List.mem_cons] at h
    rcases h with rfl | h
    · exact ⟨0, y, by simp, rfl, by simp⟩
    · obtain ⟨j, x, h1, h2, h3⟩ := seq_mem ys (b + 1) t h
      exact ⟨j + 1, x, by simp; exact h1, by simpa using h2, by rw [h3, show b + 1 + (j : Int) = b + ((j + 1 : Nat) : Int) by omega]⟩

/-! ### How many -/
def perK (K : Kn) : Int := if K.l.k = 1 then K.i.c * (K.l.s * K.l.s) else if K.l.k = 2 then 1 else if K.l.k = 4 then K.i.n else 0
theorem terms_len {K : Kn} (g : Good K) (p : Int) : ((termsK K p).length : Int) = perK K := by
  obtain ⟨r1, _⟩ := right_bd g.2.1
  have nb := size_bd K.i
  unfold termsK perK
  by_cases k1 : K.l.k = 1
  · obtain ⟨_, _, s1, _⟩ := g.conv k1
    rw [if_pos k1, if_pos k1, seq_len, chan_len, Int.natCast_mul, Int.natCast_mul, Int.toNat_of_nonneg (by omega), Int.toNat_of_nonneg (by omega)]
  · rw [if_neg k1, if_neg k1]
    by_cases k2 : K.l.k = 2
    · rw [if_pos k2, if_pos k2]; rfl
    · rw [if_neg k2, if_neg k2]
      by_cases k4 : K.l.k = 4
      · rw [if_pos k4, if_pos k4, seq_len, num_len, Int.toNat_of_nonneg (by omega)]
      · rw [if_neg k4, if_neg k4]; rfl
theorem per_all {K : Kn} (g : Good K) : K.u.n * perK K = K.p := by
  unfold perK Kn.p
  by_cases k1 : K.l.k = 1
  · obtain ⟨_, _, _, _, _, _, _, hu⟩ := g.conv k1
    have hc : K.u.c = K.l.o := by rw [hu]
    rw [if_pos k1, p_conv _ _ k1, w_conv _ k1, Sh.n_eq g.ur, hc]
    ac_rfl
  · rw [if_neg k1]
    by_cases k2 : K.l.k = 2
    · rw [if_pos k2, p_square _ _ k2, g.square k2]; omega
    · rw [if_neg k2]
      by_cases k4 : K.l.k = 4
      · obtain ⟨_, _, hu⟩ := g.dense k4
        have e := Sh.n_eq g.ur
        rw [show K.u.c = K.l.o by rw [hu], show K.u.h = 1 by rw [hu], show K.u.x = 1 by rw [hu]] at e
        rw [if_pos k4, p_dense _ _ k4, w_dense _ k4, e]
        simp
      · rw [if_neg k4, p_none _ _ k1 k2 k4]; simp
theorem per_bd {K : Kn} (g : Good K) : 0 ≤ perK K ∧ perK K ≤ 1152 := by
  obtain ⟨r1, r2, r3, r4, r5, r6, _⟩ := right_bd g.2.1
  have nb := size_bd K.i
  unfold perK
  by_cases k1 : K.l.k = 1
  · obtain ⟨_, _, s1, s2, _⟩ := g.conv k1
    rw [if_pos k1]
    have a := mul_bd (show 0 ≤ K.l.s by omega) (show K.l.s ≤ 12 by omega) (show 0 ≤ K.l.s by omega) (show K.l.s ≤ 12 by omega)
    have b := mul_bd (show 0 ≤ K.i.c by omega) r2 a.1 a.2
    omega
  · rw [if_neg k1]
    by_cases k2 : K.l.k = 2
    · rw [if_pos k2]; omega
    · rw [if_neg k2]
      by_cases k4 : K.l.k = 4
      · rw [if_pos k4]; omega
      · rw [if_neg k4]; omega

/-! ### Of which places -/
theorem conv_w {K : Kn} (k : K.l.k = 1) : K.w = K.l.o * (K.i.c * (K.l.s * K.l.s)) := by
  unfold Kn.w; rw [w_conv _ k]; ac_rfl
theorem seg_lt {a L o c j : Int} (hL : 0 ≤ L) (hc : c < o) (hj : j < L) : a + c * L + j < a + o * L := by
  have : (c + 1) * L ≤ o * L := Int.mul_le_mul_of_nonneg_right (by omega) hL
  rw [Int.add_mul, Int.one_mul] at this
  omega
theorem terms_rng {K : Kn} (g : Good K) {p : Int} (hp : hasK K p = true) : ∀ t ∈ termsK K p, 0 ≤ t.x ∧ t.x < K.i.n ∧ (K.w = 0 → t.w = -1) ∧ (0 < K.w → K.a ≤ t.w ∧ t.w < K.a + K.w) := by
  obtain ⟨r1, _⟩ := right_bd g.2.1
  obtain ⟨p0, p1⟩ := has_bd hp
  intro t ht
  unfold termsK at ht
  by_cases k1 : K.l.k = 1
  · obtain ⟨o1, o2, s1, s2, s3, t1, t2, hu⟩ := g.conv k1
    obtain ⟨⟨c0, c1⟩, _, _⟩ := of_bd (s := K.u) hp
    rw [if_pos k1] at ht
    obtain ⟨j, v, hj, hv, rfl⟩ := seq_mem _ _ _ ht
    obtain ⟨ci, r, q, hc, hr, hq, e⟩ := chan_mem.1 (List.mem_of_getElem? hv)
    have hi := conv_in g k1 hp (ci := ci) (r := r) (q := q) (by omega) (by omega) (by omega)
    obtain ⟨v0, v1⟩ := at_in_bd hi
    rw [chan_len] at hj
    have hj2 : (j : Int) < K.i.c * (K.l.s * K.l.s) := by
      have : (j : Int) < ((K.i.c.toNat * (K.l.s.toNat * K.l.s.toNat) : Nat) : Int) := by omega
      rwa [Int.natCast_mul, Int.natCast_mul, Int.toNat_of_nonneg (by omega), Int.toNat_of_nonneg (by omega)] at this
    have hch : chI K.u.c K.u.h K.u.x p < K.l.o := Int.lt_of_lt_of_le c1 (Int.le_of_eq (by rw [hu]))
    have e2 : chI K.u.c K.u.h K.u.x p * K.i.c * K.l.s * K.l.s = chI K.u.c K.u.h K.u.x p * (K.i.c * (K.l.s * K.l.s)) := by ac_rfl
    have L0 : 0 ≤ K.i.c * (K.l.s * K.l.s) := Int.mul_nonneg (by omega) (Int.mul_nonneg (by omega) (by omega))
    have m0 := Int.mul_nonneg c0 L0
    refine ⟨by show 0 ≤ v; rw [e]; exact v0, by show v < _; rw [e]; exact v1, fun h0 => ?_, fun _ => ⟨?_, ?_⟩⟩
    · exfalso
      rw [conv_w k1] at h0
      have : 0 < K.l.o * (K.i.c * (K.l.s * K.l.s)) := Int.mul_pos (by omega) (Int.mul_pos (by omega) (Int.mul_pos (by omega) (by omega)))
      omega
    · show K.a ≤ K.a + _ + (j : Int)
      rw [e2]; omega
    · show K.a + _ + (j : Int) < K.a + K.w
      rw [e2, conv_w k1]
      exact seg_lt L0 hch hj2
  · rw [if_neg k1] at ht
    by_cases k2 : K.l.k = 2
    · rw [if_pos k2] at ht
      simp at ht
      subst ht
      have hw : K.w = 0 := w_none _ k1 (by omega)
      rw [g.square k2] at p1
      exact ⟨p0, p1, fun _ => rfl, fun h => absurd h (by omega)⟩
    · rw [if_neg k2] at ht
      by_cases k4 : K.l.k = 4
      · obtain ⟨o1, o2, hu⟩ := g.dense k4
        rw [if_pos k4] at ht
        obtain ⟨j, v, hj, hv, rfl⟩ := seq_mem _ _ _ ht
        have nb := size_bd K.i
        rw [num_len] at hj
        rw [num_get hj] at hv
        have hv := Option.some.inj hv
        have hw : K.w = K.l.o * K.i.n := w_dense _ k4
        have n1 := size_pos g.2.1
        have e := Sh.n_eq g.ur
        rw [show K.u.c = K.l.o by rw [hu], show K.u.h = 1 by rw [hu], show K.u.x = 1 by rw [hu]] at e
        rw [e] at p1
        have m0 := Int.mul_nonneg p0 (show 0 ≤ K.i.n by omega)
        refine ⟨by show 0 ≤ v; omega, by show v < _; omega, fun h0 => ?_, fun _ => ⟨?_, ?_⟩⟩
        · exfalso
          rw [hw] at h0
          have : 0 < K.l.o * K.i.n := Int.mul_pos (by omega) (by omega)
          omega
        · show K.a ≤ K.a + p * K.i.n + (j : Int)
          omega
        · show K.a + p * K.i.n + (j : Int) < K.a + K.w
          rw [hw]
          exact seg_lt (by omega) (by omega) (by omega)
      · rw [if_neg k4] at ht; simp at ht
theorem termsN_is {c h x : Int} {ls : List Ly} {i p : Int} (hp : hasK (atN ⟨c, h, x, ls⟩ i) p = true) : termsN ⟨c, h, x, ls⟩ i p = termsK (atN ⟨c, h, x, ls⟩ i) p := if_pos hp
theorem termsN_no {c h x : Int} {ls : List Ly} {i p : Int} (hp : ¬ (0 ≤ p ∧ p < (atN ⟨c, h, x, ls⟩ i).u.n)) : termsN ⟨c, h, x, ls⟩ i p = [] := if_neg (by rw [show hasK _ p = false from hasB_no hp]; decide)

end Go.Proofs.Ytnfmpladdfgadaa
