/-
  Which gate a product is, and back; a network that is cut: apart from any program. Stages with their places, as a program tells them one by one: apart from any program.
-/
import Derived.Test.YtnfmpladdfgadaaGMath
namespace Go.Proofs.Ytnfmpladdfgadaa
open Go.RowKit

/-- The search tells what it has found. -/
theorem idx_found (l a t : Int) : ∀ (gs : List Gt) (k : Nat), idxL l a t gs k = -1 ∧ (∀ g ∈ gs, ¬ (g.l = l ∧ g.a = a ∧ g.t = t)) ∨ ∃ (j : Nat) (g : Gt), idxL l a t gs k = ((k + j : Nat) : Int) ∧ gs[j]? = some g ∧ g.l = l ∧ g.a = a ∧ g.t = t
  | [], k => .inl ⟨rfl, fun g hg => by cases hg⟩
  | g :: gs, k => by
    by_cases h : g.l = l ∧ g.a = a ∧ g.t = t
    · exact .inr ⟨0, g, by rw [idxL, if_pos h]; rfl, rfl, h⟩
    · rw [idxL, if_neg h]
      rcases idx_found l a t gs (k + 1) with ⟨h1, h2⟩ | ⟨j, g', h1, h2, h3⟩
      · refine .inl ⟨h1, fun y hy => ?_⟩
        rcases List.mem_cons.1 hy with rfl | hy
        · exact h
        · exact h2 y hy
      · exact .inr ⟨j + 1, g', by rw [h1, show k + 1 + j = k + (j + 1) by omega], by simpa using h2, h3⟩
theorem index_found (N : Nt) (l a t : Int) : indexN N l a t = -1 ∧ (∀ g ∈ gatesN N, ¬ (g.l = l ∧ g.a = a ∧ g.t = t)) ∨ ∃ (j : Nat) (g : Gt), indexN N l a t = (j : Int) ∧ (gatesN N)[j]? = some g ∧ g.l = l ∧ g.a = a ∧ g.t = t := by
  rcases idx_found l a t (gatesN N) 0 with h | ⟨j, g, h1, h2⟩
  · exact .inl h
  · exact .inr ⟨j, g, by rw [Nat.zero_add] at h1; exact h1, h2⟩
/-- Each gate is found. -/
theorem index_of {N : Nt} {j : Nat} {g : Gt} (h : (gatesN N)[j]? = some g) : indexN N g.l g.a g.t = (j : Nat) := by
  rcases index_found N g.l g.a g.t with ⟨_, h2⟩ | ⟨i, g', h1, h2, h3, h4, h5⟩
  · exact absurd ⟨rfl, rfl, rfl⟩ (h2 g (List.mem_of_getElem? h))
  · rw [h1, gate_key h2 h h3 h4 h5]
theorem gate_some {N : Nt} {j : Nat} {g : Gt} (h : (gatesN N)[j]? = some g) : gateN N (j : Nat) = g ∧ hasG N (j : Nat) = true := by
  obtain ⟨hj, e⟩ := List.getElem?_eq_some_iff.1 h
  have hh : hasG N (j : Nat) = true := decide_eq_true ⟨by omega, by omega⟩
  refine ⟨?_, hh⟩
  unfold gateN
  rw [if_pos hh, Int.toNat_natCast, List.getD_eq_getElem?_getD, h]; rfl
theorem gate_none {N : Nt} {g : Int} (h : ¬ (0 ≤ g ∧ g < ((gatesN N).length : Int))) : gateN N g = Gt.z ∧ hasG N g = false := by
  have hh : hasG N g = false := decide_eq_false h
  exact ⟨if_neg (by rw [hh]; decide), hh⟩

/-! ### Cut -/
theorem at_take {c h x : Int} {ls : List Ly} (e : errN ⟨c, h, x, ls⟩ = 0) {i k : Nat} (hik : i < k) (hk : k ≤ ls.length) : atN ⟨c, h, x, ls.take k⟩ (i : Nat) = atN ⟨c, h, x, ls⟩ (i : Nat) := by
  have hl := get_ly (show i < ls.length by omega)
  have hl2 : (ls.take k)[i]? = some (ls.getD i Ly.z) := by rw [List.getElem?_take, if_pos hik]; exact hl
  rw [at_some (cut_ok k e) hl2, at_some e hl, List.take_take, Nat.min_eq_left (by omega)]
theorem gatesK_take {c h x : Int} {ls : List Ly} (e : errN ⟨c, h, x, ls⟩ = 0) {k : Nat} (hk : k ≤ ls.length) : ∀ i : Nat, i ≤ k → gatesK ⟨c, h, x, ls.take k⟩ i = gatesK ⟨c, h, x, ls⟩ i
  | 0, _ => rfl
  | i + 1, hi => by rw [gatesK_next, gatesK_next, gatesK_take e hk i (by omega), at_take e (by omega) hk]
/-- With layers taken off at the end all gates that are left are what they were. -/
theorem gates_take {c h x : Int} {ls : List Ly} (e : errN ⟨c, h, x, ls⟩ = 0) {k : Nat} (hk : k ≤ ls.length) {q : Nat} {g : Gt} (hq : (gatesN ⟨c, h, x, ls.take k⟩)[q]? = some g) : (gatesN ⟨c, h, x, ls⟩)[q]? = some g := by
  rw [show gatesN ⟨c, h, x, ls.take k⟩ = gatesK ⟨c, h, x, ls.take k⟩ (ls.take k).length from if_pos (cut_ok k e), List.length_take, Nat.min_eq_left hk, gatesK_take e hk k (Nat.le_refl _)] at hq
  rw [show gatesN ⟨c, h, x, ls⟩ = gatesK ⟨c, h, x, ls⟩ ls.length from if_pos e]
  exact gatesK_pre _ hk hq
theorem stK_take (ls : List Ly) {k : Nat} : ∀ i : Nat, i ≤ k → stK (ls.take k) i = stK ls i
  | 0, _ => rfl
  | i + 1, hi => by
    have : (ls.take k).getD i Ly.z = ls.getD i Ly.z := by
      rw [List.getD_eq_getElem?_getD, List.getD_eq_getElem?_getD, List.getElem?_take, if_pos (by omega)]
    simp only [stK]
    rw [stK_take ls i (by omega), this]
theorem stK_pre (ls : List Ly) : ∀ {k m : Nat}, k ≤ m → ∃ r, stK ls m = stK ls k ++ r
  | k, 0, h => ⟨[], by obtain rfl : k = 0 := by omega
                       rfl⟩
  | k, m + 1, h => by
    by_cases e : k = m + 1
    · subst e; exact ⟨[], by simp⟩
    · obtain ⟨r, hr⟩ := stK_pre ls (show k ≤ m by omega)
      exact ⟨r ++ (if (ls.getD m Ly.z).k = 3 then [] else [((m : Nat) : Int)]), by simp only [stK]; rw [hr, List.append_assoc]⟩
theorem stages_take {c h x : Int} {ls : List Ly} (e : errN ⟨c, h, x, ls⟩ = 0) {k : Nat} (hk : k ≤ ls.length) : ∃ r, stagesN ⟨c, h, x, ls⟩ = stagesN ⟨c, h, x, ls.take k⟩ ++ r := by
  rw [show stagesN ⟨c, h, x, ls⟩ = stK ls ls.length from if_pos e, show stagesN ⟨c, h, x, ls.take k⟩ = stK (ls.take k) (ls.take k).length from if_pos (cut_ok k e), List.length_take, Nat.min_eq_left hk, stK_take ls k (Nat.le_refl _)]
  exact stK_pre ls hk

/-! ### Stages and their ranges -/
theorem stK_mem (ls : List Ly) : ∀ (k : Nat) (y : Int), y ∈ stK ls k → ∃ i : Nat, i < k ∧ y = (i : Nat) ∧ (ls.getD i Ly.z).k ≠ 3
  | 0, y, h => by simp [stK] at h
  | k + 1, y, h => by
    simp only [stK, List.mem_append] at h
    rcases h with h | h
    · obtain ⟨i, h1, h2⟩ := stK_mem ls k y h
      exact ⟨i, by omega, h2⟩
    · split at h
      · simp at h
      · rename_i h3
        simp at h
        exact ⟨k, by omega, h, h3⟩
theorem stK_sorted (ls : List Ly) : ∀ k : Nat, (stK ls k).Pairwise (· < ·)
  | 0 => List.Pairwise.nil
  | k + 1 => by
    simp only [stK]
    rw [List.pairwise_append]
    refine ⟨stK_sorted ls k, ?_, fun a ha b hb => ?_⟩
    · split
      · exact List.Pairwise.nil
      · simp
    · obtain ⟨i, h1, h2, _⟩ := stK_mem ls k a ha
      split at hb
      · simp at hb
      · simp at hb
        rw [h2, hb]; omega
/-- The products of all stages ahead are those of all layers ahead. -/
theorem st_sum {c h x : Int} {ls : List Ly} (e : errN ⟨c, h, x, ls⟩ = 0) : ∀ k : Nat, k ≤ ls.length → totP ((stK ls k).map (atN ⟨c, h, x, ls⟩)) = ((gatesK ⟨c, h, x, ls⟩ k).length : Int)
  | 0, _ => rfl
  | k + 1, hk => by
    have hl := get_ly (show k < ls.length by omega)
    have g : Good (atN ⟨c, h, x, ls⟩ (k : Nat)) := good_at (isB_yes ⟨e, by omega, by show (k : Int) < (ls.length : Int); omega⟩)
    rw [gatesK_next, List.length_append, Int.natCast_add, ← st_sum e k (by omega), gatesL_all g]
    simp only [stK]
    split
    · rename_i h3
      have : (atN ⟨c, h, x, ls⟩ (k : Nat)).p = 0 := by
        rw [at_some e hl]
        show pI (endS ⟨c, h, x⟩ (ls.take k)) (outS (endS ⟨c, h, x⟩ (ls.take k)) (ls.getD k Ly.z)) (ls.getD k Ly.z) = 0
        exact p_none _ _ (by omega) (by omega) (by omega)
      rw [List.append_nil, this]; omega
    · rw [List.map_append]
      exact (tot_snoc _ _).2

end Go.Proofs.Ytnfmpladdfgadaa

namespace Go.Proofs.Ytnfmpladdfgadaa
open Go.RowKit

theorem per_pos {K : Kn} (g : Good K) (k : K.l.k ≠ 3) : 1 ≤ perK K := by
  obtain ⟨r1, _⟩ := right_bd g.2.1
  have nb := size_pos g.2.1
  unfold perK
  rcases g.kind with k1 | k2 | k3 | k4
  · obtain ⟨_, _, s1, _⟩ := g.conv k1
    rw [if_pos k1]
    have a := Int.mul_pos (show 0 < K.l.s by omega) (show 0 < K.l.s by omega)
    have b := Int.mul_pos (show 0 < K.i.c by omega) a
    omega
  · rw [if_neg (by omega), if_pos k2]; omega
  · exact absurd k3 k
  · rw [if_neg (by omega), if_neg (by omega), if_pos k4]; exact nb
theorem p_zero {K : Kn} (g : Good K) : K.p = 0 ↔ K.l.k = 3 := by
  have e := per_all g
  have u := size_pos g.ur
  constructor
  · intro h
    by_cases k : K.l.k = 3
    · exact k
    · have := Int.mul_pos (show 0 < K.u.n by omega) (show 0 < perK K by have := per_pos g k; omega)
      omega
  · intro k
    exact p_none _ _ (by omega) (by omega) (by omega)

/-- A layer that has products. -/
abbrev isS (N : Nt) (i : Nat) : Prop := i < N.ls.length ∧ (atN N (i : Nat)).p ≠ 0
abbrev St (N : Nt) : Type := { i : Nat // isS N i }
def stI (N : Nt) : Nat → List (St N)
  | 0 => []
  | k + 1 => stI N k ++ (if h : isS N k then [⟨k, h⟩] else [])
def stL (N : Nt) : List (St N) := stI N N.ls.length
def numS (N : Nt) (i : Nat) : Int := ((stI N i).length : Nat)
def firstS (N : Nt) (i : Nat) : Int := ((gatesK N i).length : Nat)
def manyS (N : Nt) (i : Nat) : Int := (atN N (i : Nat)).p
def eachS (N : Nt) (i : Nat) : Int := perK (atN N (i : Nat))
theorem isS_err {c h x : Int} {ls : List Ly} {i : Nat} (hs : isS ⟨c, h, x, ls⟩ i) : errN ⟨c, h, x, ls⟩ = 0 := by
  by_cases e : errN ⟨c, h, x, ls⟩ = 0
  · exact e
  · have : atN ⟨c, h, x, ls⟩ (i : Nat) = Kn.z := at_out (by rw [knN_no e]; simp)
    exact absurd (by rw [this]; exact kz_p) hs.2
theorem good_i {c h x : Int} {ls : List Ly} (e : errN ⟨c, h, x, ls⟩ = 0) {i : Nat} (hi : i < ls.length) : Good (atN ⟨c, h, x, ls⟩ (i : Nat)) :=
  good_at (isB_yes ⟨e, by omega, by show (i : Int) < (ls.length : Int); omega⟩)
theorem isS_good {c h x : Int} {ls : List Ly} {i : Nat} (hs : isS ⟨c, h, x, ls⟩ i) : Good (atN ⟨c, h, x, ls⟩ (i : Nat)) := good_i (isS_err hs) hs.1
theorem at_kind {c h x : Int} {ls : List Ly} (e : errN ⟨c, h, x, ls⟩ = 0) {i : Nat} (hi : i < ls.length) : (atN ⟨c, h, x, ls⟩ (i : Nat)).l = ls.getD i Ly.z := by
  rw [at_some e (get_ly hi)]
theorem isS_kind {c h x : Int} {ls : List Ly} (e : errN ⟨c, h, x, ls⟩ = 0) {i : Nat} (hi : i < ls.length) : isS ⟨c, h, x, ls⟩ i ↔ ¬ (ls.getD i Ly.z).k = 3 := by
  have g := good_i e hi
  have z := p_zero g
  rw [at_kind e hi] at z
  exact ⟨fun hs k => hs.2 (z.2 k), fun k => ⟨hi, fun p => k (z.1 p)⟩⟩
theorem stI_st {c h x : Int} {ls : List Ly} (e : errN ⟨c, h, x, ls⟩ = 0) : ∀ k : Nat, k ≤ ls.length → (stI ⟨c, h, x, ls⟩ k).map (fun y => ((y.1 : Nat) : Int)) = stK ls k
  | 0, _ => rfl
  | k + 1, hk => by
    have z := isS_kind e (show k < ls.length by omega)
    simp only [stI, stK, List.map_append]
    rw [stI_st e k (by omega)]
    by_cases h : isS ⟨c, h, x, ls⟩ k
    · rw [dif_pos h, if_neg (z.1 h)]; rfl
    · rw [dif_neg h, if_pos (by by_cases q : (ls.getD k Ly.z).k = 3; exact q; exact absurd (z.2 q) h)]; rfl
theorem stI_none {c h x : Int} {ls : List Ly} (e : ¬ errN ⟨c, h, x, ls⟩ = 0) : ∀ k : Nat, stI ⟨c, h, x, ls⟩ k = []
  | 0 => rfl
  | k + 1 => by
    simp only [stI]
    rw [stI_none e k, dif_neg fun h => e (isS_err h)]; rfl
theorem stL_st {c h x : Int} {ls : List Ly} : (stL ⟨c, h, x, ls⟩).map (fun y => ((y.1 : Nat) : Int)) = stagesN ⟨c, h, x, ls⟩ := by
  by_cases e : errN ⟨c, h, x, ls⟩ = 0
  · rw [show stagesN ⟨c, h, x, ls⟩ = stK ls ls.length from if_pos e]
    exact stI_st e _ (Nat.le_refl _)
  · rw [show stagesN ⟨c, h, x, ls⟩ = [] from if_neg e]
    unfold stL
    rw [stI_none e]; rfl
theorem stI_len {N : Nt} : ∀ k : Nat, (stI N k).length ≤ k
  | 0 => Nat.le_refl _
  | k + 1 => by
    have := stI_len (N := N) k
    simp only [stI, List.length_append]
    split <;> simp <;> omega
theorem stI_yes {N : Nt} {k : Nat} (h : isS N k) : stI N (k + 1) = stI N k ++ [⟨k, h⟩] := by simp only [stI]; rw [dif_pos h]
theorem stI_no {N : Nt} {k : Nat} (h : ¬ isS N k) : stI N (k + 1) = stI N k := by simp only [stI]; rw [dif_neg h, List.append_nil]
theorem stI_pre {N : Nt} : ∀ {k m : Nat}, k ≤ m → stI N k <+: stI N m
  | k, 0, h => by obtain rfl : k = 0 := by omega
                  exact List.prefix_refl _
  | k, m + 1, h => by
    by_cases e : k = m + 1
    · subst e; exact List.prefix_refl _
    · exact (stI_pre (show k ≤ m by omega)).trans (List.prefix_append _ _)
theorem stI_mem {N : Nt} {i m : Nat} (h : isS N i) (him : i < m) : (⟨i, h⟩ : St N) ∈ stI N m :=
  (stI_pre (show i + 1 ≤ m by omega)).subset (by rw [stI_yes h]; simp)
theorem stL_mem {N : Nt} (x : St N) : x ∈ stL N := stI_mem x.2 x.2.1

/-- What is known of a stage. -/
theorem st_facts {c h x : Int} {ls : List Ly} (hn : ls.length ≤ 60) (y : St ⟨c, h, x, ls⟩) :
    (0 ≤ numS ⟨c, h, x, ls⟩ y.1 ∧ numS ⟨c, h, x, ls⟩ y.1 ≤ 60) ∧ (0 ≤ firstS ⟨c, h, x, ls⟩ y.1) ∧ 1 ≤ manyS ⟨c, h, x, ls⟩ y.1 ∧ firstS ⟨c, h, x, ls⟩ y.1 + manyS ⟨c, h, x, ls⟩ y.1 ≤ ((gatesN ⟨c, h, x, ls⟩).length : Int) ∧ 1 ≤ eachS ⟨c, h, x, ls⟩ y.1 ∧ (atN ⟨c, h, x, ls⟩ (y.1 : Nat)).u.n * eachS ⟨c, h, x, ls⟩ y.1 = manyS ⟨c, h, x, ls⟩ y.1 ∧ 1 ≤ (atN ⟨c, h, x, ls⟩ (y.1 : Nat)).u.n := by
  have g := isS_good y.2
  have e := isS_err y.2
  have l := stI_len (N := ⟨c, h, x, ls⟩) y.1
  have hy : y.1 < ls.length := y.2.1
  have u := size_pos g.ur
  have pa := per_all g
  have k3 : (atN ⟨c, h, x, ls⟩ (y.1 : Nat)).l.k ≠ 3 := fun k => y.2.2 ((p_zero g).2 k)
  have pp := per_pos g k3
  have p1 := Int.mul_pos (show 0 < (atN ⟨c, h, x, ls⟩ (y.1 : Nat)).u.n by omega) (show 0 < perK (atN ⟨c, h, x, ls⟩ (y.1 : Nat)) by omega)
  have hl : ((gatesK ⟨c, h, x, ls⟩ (y.1 + 1)).length : Int) = firstS ⟨c, h, x, ls⟩ y.1 + manyS ⟨c, h, x, ls⟩ y.1 := by
    rw [gatesK_next, List.length_append, Int.natCast_add, gatesL_all g]; rfl
  have hm : (gatesK ⟨c, h, x, ls⟩ (y.1 + 1)).length ≤ (gatesN ⟨c, h, x, ls⟩).length := by
    rw [show gatesN ⟨c, h, x, ls⟩ = gatesK ⟨c, h, x, ls⟩ ls.length from if_pos e]
    by_cases z : (gatesK ⟨c, h, x, ls⟩ (y.1 + 1)).length = 0
    · omega
    · have := gatesK_pre ⟨c, h, x, ls⟩ (show y.1 + 1 ≤ ls.length by omega) (gt_get (show (gatesK ⟨c, h, x, ls⟩ (y.1 + 1)).length - 1 < (gatesK ⟨c, h, x, ls⟩ (y.1 + 1)).length by omega))
      have := (List.getElem?_eq_some_iff.1 this).1
      omega
  refine ⟨⟨?_, ?_⟩, ?_, ?_, ?_, pp, pa, u⟩
  · unfold numS; omega
  · unfold numS; omega
  · unfold firstS; omega
  · unfold manyS; omega
  · rw [← hl]; omega

/-! ### Ranges -/
theorem range_of {c h x : Int} {ls : List Ly} (y : St ⟨c, h, x, ls⟩) : rangeN ⟨c, h, x, ls⟩ (numS ⟨c, h, x, ls⟩ y.1) = (firstS ⟨c, h, x, ls⟩ y.1, manyS ⟨c, h, x, ls⟩ y.1) := by
  have e := isS_err y.2
  have hy : y.1 < ls.length := y.2.1
  obtain ⟨r, hr⟩ := stI_pre (N := ⟨c, h, x, ls⟩) (show y.1 + 1 ≤ ls.length by omega)
  rw [stI_yes y.2] at hr
  have hs : stagesN ⟨c, h, x, ls⟩ = stK ls y.1 ++ (((y.1 : Nat) : Int) :: r.map (fun y => ((y.1 : Nat) : Int))) := by
    rw [← stL_st, show stL ⟨c, h, x, ls⟩ = stI ⟨c, h, x, ls⟩ ls.length from rfl, ← hr, List.map_append, List.map_append, stI_st e _ (by omega), List.append_assoc]; rfl
  have hl : (stK ls y.1).length = (stI ⟨c, h, x, ls⟩ y.1).length := by rw [← stI_st e y.1 (by omega), List.length_map]
  unfold numS
  rw [range_yes (by rw [hs, List.length_append, hl]; simp), hs, ← hl, List.take_left']
  · rw [st_sum e _ (by omega), List.getD_eq_getElem?_getD, List.getElem?_append_right (Nat.le_refl _), Nat.sub_self]; rfl
  · rfl
theorem num_at {c h x : Int} {ls : List Ly} (e : errN ⟨c, h, x, ls⟩ = 0) : ∀ (k s : Nat) (v : Int), k ≤ ls.length → (stK ls k)[s]? = some v → ∃ y : St ⟨c, h, x, ls⟩, v = (y.1 : Nat) ∧ numS ⟨c, h, x, ls⟩ y.1 = (s : Nat)
  | 0, s, v, _, hv => by simp [stK] at hv
  | k + 1, s, v, hk, hv => by
    have hl : (stK ls k).length = (stI ⟨c, h, x, ls⟩ k).length := by rw [← stI_st e k (by omega), List.length_map]
    simp only [stK] at hv
    by_cases hs : s < (stK ls k).length
    · rw [List.getElem?_append_left hs] at hv
      exact num_at e k s v (by omega) hv
    · rw [List.getElem?_append_right (by omega)] at hv
      split at hv
      · simp at hv
      · rename_i h3
        have hS := (isS_kind e (show k < ls.length by omega)).2 h3
        obtain ⟨z, z2⟩ := List.getElem?_eq_some_iff.1 hv
        simp at z
        have z0 : s - (stK ls k).length = 0 := by omega
        rw [z0] at hv
        refine ⟨⟨k, hS⟩, ?_, ?_⟩
        · simpa using hv.symm
        · unfold numS; rw [← hl]; show ((stK ls k).length : Int) = s; omega
theorem range_miss {c h x : Int} {ls : List Ly} {s : Int} (hh : ∀ y ∈ stL ⟨c, h, x, ls⟩, ¬ numS ⟨c, h, x, ls⟩ y.1 = s) : rangeN ⟨c, h, x, ls⟩ s = (0, 0) := by
  refine range_no fun ⟨h0, h1⟩ => ?_
  by_cases e : errN ⟨c, h, x, ls⟩ = 0
  · rw [show stagesN ⟨c, h, x, ls⟩ = stK ls ls.length from if_pos e] at h1
    obtain ⟨k, rfl⟩ : ∃ k : Nat, s = k := ⟨s.toNat, by omega⟩
    obtain ⟨y, _, hy⟩ := num_at e ls.length k _ (Nat.le_refl _) (st_get (show k < (stK ls ls.length).length by omega))
    exact hh y (stL_mem y) hy
  · rw [show stagesN ⟨c, h, x, ls⟩ = [] from if_neg e] at h1
    simp at h1; omega

/-! ### Gates -/
/-- Does a stage have this gate? -/
abbrev cov (N : Nt) (i : Nat) (g : Int) : Prop := firstS N i ≤ g ∧ g < firstS N i + manyS N i
theorem terms_at {c h x : Int} {ls : List Ly} (y : St ⟨c, h, x, ls⟩) {p : Int} {j : Nat} {t : Tm} (ht : (termsN ⟨c, h, x, ls⟩ (y.1 : Nat) p)[j]? = some t) :
    ∃ q : Nat, p = (q : Nat) ∧ (q : Int) < (atN ⟨c, h, x, ls⟩ (y.1 : Nat)).u.n ∧ (termsK (atN ⟨c, h, x, ls⟩ (y.1 : Nat)) (q : Nat))[j]? = some t := by
  by_cases hp : hasK (atN ⟨c, h, x, ls⟩ (y.1 : Nat)) p = true
  · obtain ⟨h0, h1⟩ := has_bd hp
    rw [termsN_is hp] at ht
    obtain ⟨q, rfl⟩ : ∃ q : Nat, p = q := ⟨p.toNat, by omega⟩
    exact ⟨q, rfl, h1, ht⟩
  · rw [show termsN ⟨c, h, x, ls⟩ (y.1 : Nat) p = [] from if_neg hp] at ht
    simp at ht
/-- The gate of a stage's place and term. -/
theorem gate_st {c h x : Int} {ls : List Ly} (y : St ⟨c, h, x, ls⟩) {p : Int} {j : Nat} {t : Tm} (ht : (termsN ⟨c, h, x, ls⟩ (y.1 : Nat) p)[j]? = some t) :
    ∃ g : Nat, firstS ⟨c, h, x, ls⟩ y.1 + p * eachS ⟨c, h, x, ls⟩ y.1 + (j : Nat) = (g : Nat) ∧ (gatesN ⟨c, h, x, ls⟩)[g]? = some ⟨(y.1 : Nat), p, (j : Nat), t.x, t.w⟩ := by
  obtain ⟨q, rfl, h1, h2⟩ := terms_at y ht
  have g := isS_good y.2
  refine ⟨_, ?_, gate_at (isS_err y.2) y.2.1 h1 h2⟩
  have := per_bd g
  unfold firstS eachS
  rw [Int.natCast_add, Int.natCast_add, Int.natCast_mul, Int.toNat_of_nonneg this.1]
  omega
theorem gate_of {c h x : Int} {ls : List Ly} (y : St ⟨c, h, x, ls⟩) {p g : Int} {j : Nat} {t : Tm} (ht : (termsN ⟨c, h, x, ls⟩ (y.1 : Nat) p)[j]? = some t) (hg : firstS ⟨c, h, x, ls⟩ y.1 + p * eachS ⟨c, h, x, ls⟩ y.1 + (j : Nat) = g) :
    gateN ⟨c, h, x, ls⟩ g = ⟨(y.1 : Nat), p, (j : Nat), t.x, t.w⟩ ∧ hasG ⟨c, h, x, ls⟩ g = true := by
  obtain ⟨k, h1, h2⟩ := gate_st y ht
  rw [← hg, h1]
  exact gate_some h2
theorem index_st {c h x : Int} {ls : List Ly} (y : St ⟨c, h, x, ls⟩) {p : Int} {j : Nat} {t : Tm} (ht : (termsN ⟨c, h, x, ls⟩ (y.1 : Nat) p)[j]? = some t) :
    indexN ⟨c, h, x, ls⟩ (y.1 : Nat) p (j : Nat) = firstS ⟨c, h, x, ls⟩ y.1 + p * eachS ⟨c, h, x, ls⟩ y.1 + (j : Nat) := by
  obtain ⟨k, h1, h2⟩ := gate_st y ht
  rw [h1]
  exact index_of h2
/-- In a stage that has the gate its place has the term. -/
theorem cov_term {c h x : Int} {ls : List Ly} (hn : ls.length ≤ 60) (y : St ⟨c, h, x, ls⟩) {g : Int} (hc : cov ⟨c, h, x, ls⟩ y.1 g) :
    ∃ j : Nat, j < (termsN ⟨c, h, x, ls⟩ (y.1 : Nat) ((g - firstS ⟨c, h, x, ls⟩ y.1) / eachS ⟨c, h, x, ls⟩ y.1)).length ∧ firstS ⟨c, h, x, ls⟩ y.1 + (g - firstS ⟨c, h, x, ls⟩ y.1) / eachS ⟨c, h, x, ls⟩ y.1 * eachS ⟨c, h, x, ls⟩ y.1 + (j : Nat) = g := by
  obtain ⟨_, _, _, _, e1, ue, u1⟩ := st_facts hn y
  have G := isS_good y.2
  obtain ⟨d, hd⟩ : ∃ d, d = g - firstS ⟨c, h, x, ls⟩ y.1 := ⟨_, rfl⟩
  obtain ⟨E, hE⟩ : ∃ E, E = eachS ⟨c, h, x, ls⟩ y.1 := ⟨_, rfl⟩
  rw [← hd, ← hE]
  rw [← hE] at e1 ue
  have d0 : 0 ≤ d := by have := hc.1; omega
  have d1 : d < (atN ⟨c, h, x, ls⟩ (y.1 : Nat)).u.n * E := by rw [ue]; have := hc.2; omega
  have m0 := Int.emod_nonneg d (show E ≠ 0 by omega)
  have m1 := Int.emod_lt_of_pos d (show 0 < E by omega)
  have m2 := Int.emod_add_mul_ediv d E
  have q0 := Int.ediv_nonneg d0 (show 0 ≤ E by omega)
  have q1 : d / E < (atN ⟨c, h, x, ls⟩ (y.1 : Nat)).u.n := Int.ediv_lt_of_lt_mul (by omega) d1
  have hh : hasK (atN ⟨c, h, x, ls⟩ (y.1 : Nat)) (d / E) = true := has_yes q0 q1
  have tl := terms_len G (d / E)
  rw [show perK (atN ⟨c, h, x, ls⟩ (y.1 : Nat)) = E from hE.symm] at tl
  refine ⟨(d % E).toNat, ?_, ?_⟩
  · rw [termsN_is hh]; omega
  · have : E * (d / E) = d / E * E := Int.mul_comm _ _
    omega
theorem cov_some {c h x : Int} {ls : List Ly} (e : errN ⟨c, h, x, ls⟩ = 0) : ∀ (k : Nat) (g : Int), k ≤ ls.length → 0 ≤ g → g < ((gatesK ⟨c, h, x, ls⟩ k).length : Int) → ∃ y : St ⟨c, h, x, ls⟩, cov ⟨c, h, x, ls⟩ y.1 g
  | 0, g, _, h0, h1 => by simp [gatesK] at h1; omega
  | k + 1, g, hk, h0, h1 => by
    have G := good_i e (show k < ls.length by omega)
    rw [gatesK_next, List.length_append, Int.natCast_add, gatesL_all G] at h1
    by_cases hg : g < ((gatesK ⟨c, h, x, ls⟩ k).length : Int)
    · exact cov_some e k g (by omega) h0 hg
    · refine ⟨⟨k, by show k < ls.length; omega, by omega⟩, ?_⟩
      exact ⟨by show ((gatesK ⟨c, h, x, ls⟩ k).length : Int) ≤ g; omega, by show g < ((gatesK ⟨c, h, x, ls⟩ k).length : Int) + (atN ⟨c, h, x, ls⟩ (k : Nat)).p; omega⟩
theorem gate_miss {c h x : Int} {ls : List Ly} {g : Int} (hh : ∀ y ∈ stL ⟨c, h, x, ls⟩, ¬ cov ⟨c, h, x, ls⟩ y.1 g) : gateN ⟨c, h, x, ls⟩ g = Gt.z ∧ hasG ⟨c, h, x, ls⟩ g = false := by
  refine gate_none fun ⟨h0, h1⟩ => ?_
  by_cases e : errN ⟨c, h, x, ls⟩ = 0
  · rw [show gatesN ⟨c, h, x, ls⟩ = gatesK ⟨c, h, x, ls⟩ ls.length from if_pos e] at h1
    obtain ⟨y, hy⟩ := cov_some e ls.length g (Nat.le_refl _) h0 h1
    exact hh y (stL_mem y) hy
  · rw [show gatesN ⟨c, h, x, ls⟩ = [] from if_neg e] at h1
    simp at h1; omega
/-- Each gate is a stage's, of a place of its, and of a term there. -/
theorem gate_known {c h x : Int} {ls : List Ly} {G : Gt} (hG : G ∈ gatesN ⟨c, h, x, ls⟩) :
    ∃ (y : St ⟨c, h, x, ls⟩) (j : Nat), G.l = (y.1 : Nat) ∧ G.t = (j : Nat) ∧ j < (termsN ⟨c, h, x, ls⟩ (y.1 : Nat) G.a).length := by
  by_cases e : errN ⟨c, h, x, ls⟩ = 0
  · rw [show gatesN ⟨c, h, x, ls⟩ = gatesK ⟨c, h, x, ls⟩ ls.length from if_pos e] at hG
    unfold gatesK at hG
    rw [List.mem_flatMap] at hG
    obtain ⟨i, hi, hG⟩ := hG
    have hi : i < ls.length := List.mem_range.1 hi
    have g := good_i e hi
    obtain ⟨q, hq, hG⟩ := gatesL_mem hG
    obtain ⟨h1, h2, h3, h4⟩ := gatesT_mem _ _ _ _ _ hG
    have tl := terms_len g (q : Nat)
    have u := size_bd (atN ⟨c, h, x, ls⟩ (i : Nat)).u
    have hu : ((q : Nat) : Int) < (atN ⟨c, h, x, ls⟩ (i : Nat)).u.n := by omega
    have hp : (atN ⟨c, h, x, ls⟩ (i : Nat)).p ≠ 0 := fun z => by
      have := per_all g
      rw [z] at this
      have := Int.mul_pos (show 0 < (atN ⟨c, h, x, ls⟩ (i : Nat)).u.n by omega) (show 0 < perK (atN ⟨c, h, x, ls⟩ (i : Nat)) by omega)
      omega
    refine ⟨⟨i, hi, hp⟩, G.t.toNat, h1, by omega, ?_⟩
    show _ < (termsN ⟨c, h, x, ls⟩ (i : Nat) G.a).length
    rw [h2, termsN_is (has_yes (by omega) hu)]
    omega
  · rw [show gatesN ⟨c, h, x, ls⟩ = [] from if_neg e] at hG
    cases hG
theorem index_miss {c h x : Int} {ls : List Ly} {l a t : Int} (hh : ∀ y ∈ stL ⟨c, h, x, ls⟩, ((y.1 : Nat) : Int) = l → ∀ j : Nat, j < (termsN ⟨c, h, x, ls⟩ (y.1 : Nat) a).length → ¬ ((j : Nat) : Int) = t) : indexN ⟨c, h, x, ls⟩ l a t = -1 := by
  rcases index_found ⟨c, h, x, ls⟩ l a t with ⟨h1, _⟩ | ⟨k, G, _, h2, h3, h4, h5⟩
  · exact h1
  · obtain ⟨y, j, e1, e2, e3⟩ := gate_known (List.mem_of_getElem? h2)
    rw [h4] at e3
    exact absurd (e2.symm.trans h5) (hh y (stL_mem y) (e1.symm.trans h3) j e3)

end Go.Proofs.Ytnfmpladdfgadaa
