/-
  All products of a network, one by one: apart from any program.
-/
import Derived.Test.YtnfmpladdfgadaaTGood
namespace Go.Proofs.Ytnfmpladdfgadaa
open Go.RowKit

/-- A gate: its layer, the place that comes out, the how many-th term there, and that term's places. -/
structure Gt where
  l : Int
  a : Int
  t : Int
  x : Int
  w : Int
def Gt.z : Gt := ⟨0, 0, 0, 0, 0⟩
/-- Gates of terms, numbered from k on. -/
def gatesT (i p : Int) : Nat → List Tm → List Gt
  | _, [] => []
  | k, t :: ts => ⟨i, p, (k : Nat), t.x, t.w⟩ :: gatesT i p (k + 1) ts
def gatesP (K : Kn) (i : Int) (p : Nat) : List Gt := gatesT i (p : Nat) 0 (termsK K (p : Nat))
def gatesL (K : Kn) (i : Int) (m : Nat) : List Gt := (List.range m).flatMap (gatesP K i)
/-- Gates of the first k layers. -/
def gatesK (N : Nt) (k : Nat) : List Gt := (List.range k).flatMap fun i => gatesL (atN N (i : Nat)) (i : Nat) (atN N (i : Nat)).u.n.toNat
def gatesN (N : Nt) : List Gt := if errN N = 0 then gatesK N N.ls.length else []
theorem gatesT_len (i p : Int) : ∀ (ts : List Tm) (k : Nat), (gatesT i p k ts).length = ts.length
  | [], _ => rfl
  | t :: ts, k => by simp only [gatesT, List.length_cons, gatesT_len i p ts]
theorem gatesT_get (i p : Int) : ∀ (ts : List Tm) (k j : Nat) (t : Tm), ts[j]? = some t → (gatesT i p k ts)[j]? = some ⟨i, p, ((k + j : Nat) : Int), t.x, t.w⟩
  | [], _, _, _, h => by simp at h
  | u :: ts, k, 0, t, h => by simp at h; simp [gatesT, h]
  | u :: ts, k, j + 1, t, h => by
    simp only [gatesT, List.getElem?_cons_succ] at h ⊢
    rw [gatesT_get i p ts (k + 1) j t h, show k + 1 + j = k + (j + 1) by omega]
theorem gatesT_app (i p : Int) : ∀ (ts : List Tm) (k : Nat) (t : Tm), gatesT i p k (ts ++ [t]) = gatesT i p k ts ++ [⟨i, p, ((k + ts.length : Nat) : Int), t.x, t.w⟩]
  | [], k, t => by simp [gatesT]
  | u :: ts, k, t => by
    simp only [List.cons_append, gatesT, List.length_cons]
    rw [gatesT_app i p ts (k + 1) t, show k + 1 + ts.length = k + (ts.length + 1) by omega]
theorem gatesT_mem (i p : Int) : ∀ (ts : List Tm) (k : Nat) (g : Gt), g ∈ gatesT i p k ts → g.l = i ∧ g.a = p ∧ (k : Int) ≤ g.t ∧ g.t < ((k + ts.length : Nat) : Int)
  | [], _, _, h => by simp [gatesT] at h
  | t :: ts, k, g, h => by
    simp only [gatesT, List.mem_cons] at h
    rcases h with rfl | h
    · refine ⟨rfl, rfl, Int.le_refl _, ?_⟩
      show ((k : Nat) : Int) < _
      simp only [List.length_cons]; omega
    · obtain ⟨h1, h2, h3, h4⟩ := gatesT_mem i p ts (k + 1) g h
      refine ⟨h1, h2, by omega, ?_⟩
      simp only [List.length_cons]; omega

/-- Earlier: of an earlier layer, or place, or term. -/
def Ahead (g h : Gt) : Prop := g.l < h.l ∨ g.l = h.l ∧ (g.a < h.a ∨ g.a = h.a ∧ g.t < h.t)
theorem ahead_T (i p : Int) : ∀ (ts : List Tm) (k : Nat), (gatesT i p k ts).Pairwise Ahead
  | [], _ => List.Pairwise.nil
  | t :: ts, k => by
    refine List.Pairwise.cons (fun g hg => ?_) (ahead_T i p ts (k + 1))
    obtain ⟨h1, h2, h3, _⟩ := gatesT_mem i p ts (k + 1) g hg
    exact .inr ⟨h1.symm, .inr ⟨h2.symm, by show ((k : Nat) : Int) < g.t; omega⟩⟩
theorem gatesL_mem {K : Kn} {i : Int} {m : Nat} {g : Gt} (h : g ∈ gatesL K i m) : ∃ p : Nat, p < m ∧ g ∈ gatesP K i p := by
  unfold gatesL at h
  rw [List.mem_flatMap] at h
  obtain ⟨p, hp, hg⟩ := h
  exact ⟨p, List.mem_range.1 hp, hg⟩
theorem range_pair (n : Nat) : (List.range n).Pairwise (· < ·) := List.pairwise_lt_range
theorem ahead_L (K : Kn) (i : Int) (m : Nat) : (gatesL K i m).Pairwise Ahead := by
  unfold gatesL
  rw [List.pairwise_flatMap]
  refine ⟨fun p _ => ahead_T _ _ _ _, (range_pair m).imp fun {p q} hpq g hg h hh => ?_⟩
  obtain ⟨a1, a2, _⟩ := gatesT_mem _ _ _ _ _ hg
  obtain ⟨b1, b2, _⟩ := gatesT_mem _ _ _ _ _ hh
  exact .inr ⟨by rw [a1, b1], .inl (by rw [a2, b2]; omega)⟩
theorem gatesL_layer {K : Kn} {i : Int} {m : Nat} {g : Gt} (h : g ∈ gatesL K i m) : g.l = i := by
  obtain ⟨p, _, hg⟩ := gatesL_mem h
  exact (gatesT_mem _ _ _ _ _ hg).1
theorem ahead_K (N : Nt) (k : Nat) : (gatesK N k).Pairwise Ahead := by
  unfold gatesK
  rw [List.pairwise_flatMap]
  refine ⟨fun i _ => ahead_L _ _ _, (range_pair k).imp fun {i j} hij g hg h hh => ?_⟩
  exact .inl (by rw [gatesL_layer hg, gatesL_layer hh]; omega)
theorem ahead_N (N : Nt) : (gatesN N).Pairwise Ahead := by
  unfold gatesN
  split
  · exact ahead_K _ _
  · exact List.Pairwise.nil
/-- In order: the lesser one is ahead. -/
theorem ahead_lt {N : Nt} {a b : Nat} {g h : Gt} (ha : (gatesN N)[a]? = some g) (hb : (gatesN N)[b]? = some h) (hab : a < b) : Ahead g h := by
  obtain ⟨l1, e1⟩ := List.getElem?_eq_some_iff.1 ha
  obtain ⟨l2, e2⟩ := List.getElem?_eq_some_iff.1 hb
  rw [← e1, ← e2]
  exact List.pairwise_iff_getElem.1 (ahead_N N) a b l1 l2 hab
theorem ahead_not {g h : Gt} (h1 : Ahead g h) (h2 : Ahead h g) : False := by
  unfold Ahead at h1 h2; omega
theorem ahead_self (g : Gt) : ¬ Ahead g g := by unfold Ahead; omega
theorem ahead_iff {N : Nt} {a b : Nat} {g h : Gt} (ha : (gatesN N)[a]? = some g) (hb : (gatesN N)[b]? = some h) : Ahead g h ↔ a < b := by
  constructor
  · intro hh
    rcases Nat.lt_trichotomy a b with c | c | c
    · exact c
    · subst c
      rw [ha] at hb
      obtain rfl := Option.some.inj hb
      exact absurd hh (ahead_self g)
    · exact absurd (ahead_lt hb ha c) (fun z => ahead_not hh z)
  · exact ahead_lt ha hb
/-- A gate is known by its layer, place and term. -/
theorem gate_key {N : Nt} {a b : Nat} {g h : Gt} (ha : (gatesN N)[a]? = some g) (hb : (gatesN N)[b]? = some h) (e1 : g.l = h.l) (e2 : g.a = h.a) (e3 : g.t = h.t) : a = b := by
  have na : ¬ Ahead g h := by unfold Ahead; omega
  have nb : ¬ Ahead h g := by unfold Ahead; omega
  rw [ahead_iff ha hb] at na
  rw [ahead_iff hb ha] at nb
  omega

/-! ### How many -/
theorem flat_range_len {α : Type} (f : Nat → List α) (m c : Nat) (h : ∀ p, p < m → (f p).length = c) : ((List.range m).flatMap f).length = m * c := by
  induction m with
  | zero => simp
  | succ m ih =>
    rw [List.range_succ, List.flatMap_append, List.length_append, ih fun p hp => h p (by omega)]
    simp [h m (Nat.lt_succ_self m), Nat.succ_mul]
theorem gatesL_len {K : Kn} (g : Good K) (i : Int) (m : Nat) : (gatesL K i m).length = m * (perK K).toNat := by
  unfold gatesL
  refine flat_range_len _ m _ fun p _ => ?_
  unfold gatesP
  rw [gatesT_len]
  have := terms_len g (p : Nat)
  omega
theorem gatesL_all {K : Kn} (g : Good K) (i : Int) : ((gatesL K i K.u.n.toNat).length : Int) = K.p := by
  rw [gatesL_len g, Int.natCast_mul, Int.toNat_of_nonneg (size_bd K.u).1, Int.toNat_of_nonneg (per_bd g).1]
  exact per_all g
theorem gatesK_next (N : Nt) (k : Nat) : gatesK N (k + 1) = gatesK N k ++ gatesL (atN N (k : Nat)) (k : Nat) (atN N (k : Nat)).u.n.toNat := by
  unfold gatesK
  rw [List.range_succ, List.flatMap_append]; simp
theorem gatesK_len {c h x : Int} {ls : List Ly} (e : errN ⟨c, h, x, ls⟩ = 0) : ∀ k : Nat, k ≤ ls.length → ((gatesK ⟨c, h, x, ls⟩ k).length : Int) = totP ((knN ⟨c, h, x, ls⟩).take k)
  | 0, _ => rfl
  | k + 1, hk => by
    have g : Good (atN ⟨c, h, x, ls⟩ (k : Nat)) := good_at (isB_yes ⟨e, by omega, by show (k : Int) < (ls.length : Int); omega⟩)
    have hl := get_ly (show k < ls.length by omega)
    have hK : (knN ⟨c, h, x, ls⟩)[k]? = some (atN ⟨c, h, x, ls⟩ (k : Nat)) := by
      rw [knN_ok e, at_some e hl]
      have := kn_get ls ⟨c, h, x⟩ 0 k _ hl
      rw [Int.zero_add] at this
      exact this
    have ht := tot_snoc ((knN ⟨c, h, x, ls⟩).take k) (atN ⟨c, h, x, ls⟩ (k : Nat))
    rw [← take_get hK] at ht
    rw [gatesK_next, List.length_append, Int.natCast_add, gatesK_len e k (by omega), gatesL_all g, ht.2]
theorem gates_total {c h x : Int} {ls : List Ly} : ((gatesN ⟨c, h, x, ls⟩).length : Int) = totP (knN ⟨c, h, x, ls⟩) := by
  by_cases e : errN ⟨c, h, x, ls⟩ = 0
  · have := gatesK_len e ls.length (Nat.le_refl _)
    rw [show gatesN ⟨c, h, x, ls⟩ = gatesK ⟨c, h, x, ls⟩ ls.length from if_pos e, this, List.take_of_length_le (by rw [knN_ok e, kn_len]; exact Nat.le_refl _)]
  · rw [show gatesN ⟨c, h, x, ls⟩ = [] from if_neg e, knN_no e]; rfl

/-! ### Where a gate stands -/
theorem flat_range_get {α : Type} (f : Nat → List α) (c : Nat) : ∀ (m p j : Nat), (∀ p, p < m → (f p).length = c) → p < m → j < c → ((List.range m).flatMap f)[p * c + j]? = (f p)[j]?
  | 0, p, j, _, hp, _ => absurd hp (by omega)
  | m + 1, p, j, h, hp, hj => by
    have hl := flat_range_len f m c fun p hp => h p (by omega)
    rw [List.range_succ, List.flatMap_append]
    by_cases e : p = m
    · subst e
      rw [List.getElem?_append_right (by rw [hl]; omega), hl, Nat.add_sub_cancel_left]; simp
    · have : p * c + j < m * c := by
        have : (p + 1) * c ≤ m * c := Nat.mul_le_mul_right c (by omega)
        rw [Nat.succ_mul] at this; omega
      rw [List.getElem?_append_left (by rw [hl]; exact this)]
      exact flat_range_get f c m p j (fun p hp => h p (by omega)) (by omega) hj
theorem gatesL_get {K : Kn} (g : Good K) (i : Int) {m p j : Nat} {t : Tm} (hp : p < m) (ht : (termsK K (p : Nat))[j]? = some t) :
    (gatesL K i m)[p * (perK K).toNat + j]? = some ⟨i, (p : Nat), (j : Nat), t.x, t.w⟩ := by
  have hlen : ∀ p : Nat, (gatesP K i p).length = (perK K).toNat := fun p => by
    unfold gatesP
    rw [gatesT_len]
    have := terms_len g (p : Nat)
    omega
  have hj : j < (perK K).toNat := by
    have := (List.getElem?_eq_some_iff.1 ht).1
    have := terms_len g (p : Nat)
    omega
  unfold gatesL
  rw [flat_range_get _ _ m p j (fun p _ => hlen p) hp hj]
  have := gatesT_get i (p : Nat) (termsK K (p : Nat)) 0 j t ht
  rw [Nat.zero_add] at this
  exact this
theorem gatesK_pre (N : Nt) : ∀ {k m : Nat}, k ≤ m → ∀ {q : Nat} {g : Gt}, (gatesK N k)[q]? = some g → (gatesK N m)[q]? = some g
  | k, 0, h, q, g, hq => by obtain rfl : k = 0 := by omega
                            exact hq
  | k, m + 1, h, q, g, hq => by
    by_cases e : k = m + 1
    · subst e; exact hq
    · rw [gatesK_next, List.getElem?_append_left (by
        have := (List.getElem?_eq_some_iff.1 (gatesK_pre N (show k ≤ m by omega) hq)).1; exact this)]
      exact gatesK_pre N (by omega) hq
/-- The gate of a layer's place and term. -/
theorem gate_at {c h x : Int} {ls : List Ly} (e : errN ⟨c, h, x, ls⟩ = 0) {i p j : Nat} {t : Tm} (hi : i < ls.length) (hp : (p : Int) < (atN ⟨c, h, x, ls⟩ (i : Nat)).u.n) (ht : (termsK (atN ⟨c, h, x, ls⟩ (i : Nat)) (p : Nat))[j]? = some t) :
    (gatesN ⟨c, h, x, ls⟩)[(gatesK ⟨c, h, x, ls⟩ i).length + (p * (perK (atN ⟨c, h, x, ls⟩ (i : Nat))).toNat + j)]? = some ⟨(i : Nat), (p : Nat), (j : Nat), t.x, t.w⟩ := by
  have g : Good (atN ⟨c, h, x, ls⟩ (i : Nat)) := good_at (isB_yes ⟨e, by omega, by show (i : Int) < (ls.length : Int); omega⟩)
  rw [show gatesN ⟨c, h, x, ls⟩ = gatesK ⟨c, h, x, ls⟩ ls.length from if_pos e]
  refine gatesK_pre _ (show i + 1 ≤ ls.length by omega) ?_
  rw [gatesK_next, List.getElem?_append_right (by omega), Nat.add_sub_cancel_left]
  exact gatesL_get g _ (by omega) ht

/-! ### Stages, ranges, lines; which gate -/
def stK (ls : List Ly) : Nat → List Int
  | 0 => []
  | k + 1 => stK ls k ++ (if (ls.getD k Ly.z).k = 3 then [] else [((k : Nat) : Int)])
def stagesN (N : Nt) : List Int := if errN N = 0 then stK N.ls N.ls.length else []
theorem stK_len (ls : List Ly) : ∀ k : Nat, (stK ls k).length ≤ k
  | 0 => Nat.le_refl _
  | k + 1 => by
    have := stK_len ls k
    simp only [stK, List.length_append]
    split <;> simp <;> omega
def rangeN (N : Nt) (s : Int) : Int × Int := if 0 ≤ s ∧ s < ((stagesN N).length : Int) then (totP (((stagesN N).take s.toNat).map (atN N)), (atN N ((stagesN N).getD s.toNat 0)).p) else (0, 0)
def lineN (N : Nt) (s : Int) : Int × Int := if errN N = 0 ∧ s = ((stagesN N).length : Int) then (2 * totP (knN N), (endS N.s N.ls).n) else (2 * (rangeN N s).1, 2 * (rangeN N s).2)
def hasG (N : Nt) (g : Int) : Bool := decide (0 ≤ g ∧ g < ((gatesN N).length : Int))
def gateN (N : Nt) (g : Int) : Gt := if hasG N g = true then (gatesN N).getD g.toNat Gt.z else Gt.z
def idxL (l a t : Int) : List Gt → Nat → Int
  | [], _ => -1
  | g :: gs, k => if g.l = l ∧ g.a = a ∧ g.t = t then (k : Nat) else idxL l a t gs (k + 1)
def indexN (N : Nt) (l a t : Int) : Int := idxL l a t (gatesN N) 0
theorem range_yes {N : Nt} {s : Nat} (h : s < (stagesN N).length) : rangeN N (s : Nat) = (totP (((stagesN N).take s).map (atN N)), (atN N ((stagesN N).getD s 0)).p) := if_pos ⟨by omega, by omega⟩
theorem range_no {N : Nt} {s : Int} (h : ¬ (0 ≤ s ∧ s < ((stagesN N).length : Int))) : rangeN N s = (0, 0) := if_neg h
theorem st_get {l : List Int} {k : Nat} (h : k < l.length) : l[k]? = some (l.getD k 0) := by
  rw [List.getElem?_eq_getElem h]; simp [List.getD_eq_getElem?_getD, h]
theorem gt_get {l : List Gt} {k : Nat} (h : k < l.length) : l[k]? = some (l.getD k Gt.z) := by
  rw [List.getElem?_eq_getElem h]; simp [List.getD_eq_getElem?_getD, h]
theorem drop_get {α : Type} {l : List α} {k : Nat} {x : α} (h : l[k]? = some x) : l.drop k = x :: l.drop (k + 1) := by
  obtain ⟨hk, e⟩ := List.getElem?_eq_some_iff.1 h
  rw [List.drop_eq_getElem_cons hk, e]
theorem idx_miss {l a t : Int} {gs : List Gt} {k : Nat} {g : Gt} (hg : gs[k]? = some g) (h : ¬ (g.l = l ∧ g.a = a ∧ g.t = t)) : idxL l a t (gs.drop k) k = idxL l a t (gs.drop (k + 1)) (k + 1) := by
  rw [drop_get hg, idxL, if_neg h]
theorem idx_hit {l a t : Int} {gs : List Gt} {k : Nat} {g : Gt} (hg : gs[k]? = some g) (h : g.l = l ∧ g.a = a ∧ g.t = t) : idxL l a t (gs.drop k) k = (k : Nat) := by
  rw [drop_get hg, idxL, if_pos h]
theorem gates_bd {c h x : Int} {ls : List Ly} : (gatesN ⟨c, h, x, ls⟩).length ≤ 512 := by
  have := gates_total (c := c) (h := h) (x := x) (ls := ls)
  by_cases e : errN ⟨c, h, x, ls⟩ = 0
  · rw [(tots e).2] at this
    have := (ok_all e).2.2.2.2.1
    omega
  · rw [show gatesN ⟨c, h, x, ls⟩ = [] from if_neg e]; simp
def gcells (g : Gt) : List Value := [.int .i64 g.l, .int .i64 g.a, .int .i64 g.t, .int .i64 g.x, .int .i64 g.w]
theorem gcells_len (g : Gt) : (gcells g).length = 5 := rfl
theorem gcells_one (g : Gt) : ∀ u ∈ gcells g, u.oneCell' = true := fun u hu => by
  simp only [gcells, List.mem_cons, List.not_mem_nil, or_false] at hu
  rcases hu with rfl | rfl | rfl | rfl | rfl <;> rfl
theorem g_cells {w : World} {b off : Nat} {gs : List Gt} (h : ∀ j u, (gs.flatMap gcells)[j]? = some u → w.cell? ⟨b, off + j, none⟩ = some u) {k : Nat} {g : Gt} (hg : gs[k]? = some g) :
    w.cell? ⟨b, off + k * 5, none⟩ = some (.int .i64 g.l) ∧ w.cell? ⟨b, off + k * 5 + 1, none⟩ = some (.int .i64 g.a) ∧ w.cell? ⟨b, off + k * 5 + 2, none⟩ = some (.int .i64 g.t) ∧ w.cell? ⟨b, off + k * 5 + 3, none⟩ = some (.int .i64 g.x) ∧ w.cell? ⟨b, off + k * 5 + 4, none⟩ = some (.int .i64 g.w) := by
  have q := Rg.at gcells_len h hg
  exact ⟨q 0 _ rfl, q 1 _ rfl, q 2 _ rfl, q 3 _ rfl, q 4 _ rfl⟩
theorem in_cell {w : World} {b off : Nat} {xs : List Int} (h : ∀ j u, (xs.flatMap icells)[j]? = some u → w.cell? ⟨b, off + j, none⟩ = some u) {k : Nat} {x : Int} (hx : xs[k]? = some x) :
    w.cell? ⟨b, off + k, none⟩ = some (.int .i64 x) := by
  have q := Rg.at icells_len h hx
  have := q 0 _ rfl
  rw [Nat.mul_one, Nat.add_zero] at this
  exact this

end Go.Proofs.Ytnfmpladdfgadaa
