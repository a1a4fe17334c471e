/-
  What the laws of this seat stand on, part 7.
-/
import Derived.Test.YtklgjhldebdegaaB06
import Derived.Maps.AppendAt
import Derived.Deep.RegionHeld3
import Derived.Deep.AppendLies
import Derived.Deep.LoopGhost
import Derived.Laws.StructEq
namespace Go.Proofs.Ytklgjhldebdegaa
open Go.RowKit

/-! ### What is said, gate by gate -/
def sayL (op : Nat → On) (m : Nat) : List UInt64 := (List.range m).flatMap fun j => [(op j).d, (op j).e]
theorem say_next (op : Nat → On) (m : Nat) : sayL op (m + 1) = sayL op m ++ [(op m).d, (op m).e] := by simp [sayL, List.range_succ]
theorem say_len (op : Nat → On) (m : Nat) : (sayL op m).length = 2 * m := by
  induction m with
  | zero => rfl
  | succ m ih => rw [say_next, List.length_append, ih]; simp; omega
theorem say_get (op : Nat → On) : ∀ (m j : Nat), j < m → (sayL op m)[2 * j]? = some (op j).d ∧ (sayL op m)[2 * j + 1]? = some (op j).e
  | 0, j, h => absurd h (by omega)
  | m + 1, j, h => by
    rw [say_next]
    by_cases e : j = m
    · subst e
      rw [List.getElem?_append_right (by rw [say_len]; omega), List.getElem?_append_right (by rw [say_len]; omega), say_len, Nat.sub_self, show 2 * j + 1 - 2 * j = 1 by omega]
      exact ⟨rfl, rfl⟩
    · obtain ⟨h1, h2⟩ := say_get op m j (by omega)
      rw [List.getElem?_append_left (by rw [say_len]; omega), List.getElem?_append_left (by rw [say_len]; omega)]
      exact ⟨h1, h2⟩
theorem say_ug (op : Nat → On) {m j : Nat} (h : j < m) : ug (sayL op m) ((2 * j : Nat) : Int) = (op j).d ∧ ug (sayL op m) ((2 * j + 1 : Nat) : Int) = (op j).e := by
  obtain ⟨h1, h2⟩ := say_get op m j h
  unfold ug
  rw [List.getD_eq_getElem?_getD, List.getD_eq_getElem?_getD, Int.toNat_natCast, Int.toNat_natCast, h1, h2]
  exact ⟨rfl, rfl⟩

/-! ### What is summed up, gate by gate -/
def accL (at' : Nat → Nat) (val : Nat → UInt64) (out : List UInt64) : Nat → List UInt64
  | 0 => out
  | k + 1 => (accL at' val out k).set (at' k) ((accL at' val out k).getD (at' k) 0 + val k)
theorem acc_len (at' : Nat → Nat) (val : Nat → UInt64) (out : List UInt64) : ∀ k, (accL at' val out k).length = out.length
  | 0 => rfl
  | k + 1 => by rw [accL, List.length_set, acc_len at' val out k]
theorem addU_set {a b : List UInt64} (h : a.length = b.length) (i : Nat) (x y : UInt64) : addU (a.set i x) (b.set i y) = (addU a b).set i (x + y) := by
  unfold addU
  apply List.ext_getElem?
  intro j
  rw [List.getElem?_zipWith, List.getElem?_set, List.getElem?_set, List.getElem?_set, List.getElem?_zipWith, List.length_zipWith]
  by_cases e : i = j
  · subst e
    rw [if_pos rfl, if_pos rfl, if_pos rfl]
    by_cases hi : i < a.length
    · rw [if_pos hi, if_pos (by omega), if_pos (by omega)]
    · rw [if_neg hi, if_neg (by omega), if_neg (by omega)]
  · rw [if_neg e, if_neg e, if_neg e]
theorem getD_add {a b : List UInt64} (h : a.length = b.length) (i : Nat) : (addU a b).getD i 0 = a.getD i 0 + b.getD i 0 := by
  have := ug_add h ((i : Nat) : Int)
  unfold ug at this
  simpa using this
theorem acc_add (at' : Nat → Nat) (v v' : Nat → UInt64) {o o' : List UInt64} (h : o.length = o'.length) : ∀ k, accL at' (fun j => v j + v' j) (addU o o') k = addU (accL at' v o k) (accL at' v' o' k)
  | 0 => rfl
  | k + 1 => by
    have hl : (accL at' v o k).length = (accL at' v' o' k).length := by rw [acc_len, acc_len, h]
    rw [accL, accL, accL, addU_set hl, acc_add at' v v' h k, getD_add hl]
    congr 1
    grind
theorem acc_congr (at' : Nat → Nat) {v v' : Nat → UInt64} (o : List UInt64) : ∀ k, (∀ j, j < k → v j = v' j) → accL at' v o k = accL at' v' o k
  | 0, _ => rfl
  | k + 1, h => by rw [accL, accL, acc_congr at' o k fun j hj => h j (by omega), h k (by omega)]
/-- What is summed up of a block of gates of one place. -/
theorem acc_block (at' : Nat → Nat) (v : Nat → UInt64) (o : List UInt64) (b p : Nat) : ∀ t, (∀ j, j < t → at' (b + j) = p) → p < o.length →
    accL at' v o (b + t) = (accL at' v o b).set p ((accL at' v o b).getD p 0 + sumU ((List.range t).map fun j => v (b + j)))
  | 0, _, hp => by
    have hp2 : p < (accL at' v o b).length := by rw [acc_len]; exact hp
    simp only [Nat.add_zero, List.range_zero, List.map_nil, sumU, UInt64.add_zero]
    rw [List.getD_eq_getElem?_getD, List.getElem?_eq_getElem hp2]
    simp
  | t + 1, h, hp => by
    have hp2 : p < (accL at' v o b).length := by rw [acc_len]; exact hp
    rw [show b + (t + 1) = (b + t) + 1 by omega, accL, acc_block at' v o b p t (fun j hj => h j (by omega)) hp, h t (by omega), List.set_set]
    congr 1
    rw [List.getD_eq_getElem?_getD, List.getElem?_set_self hp2, List.range_succ, List.map_append, sumU_app]
    simp [sumU]
    grind
/-- What is summed up of all gates of a layer, place by place. -/
theorem acc_all (at' : Nat → Nat) (v : Nat → UInt64) (n c : Nat) (h : ∀ p j, p < n → j < c → at' (p * c + j) = p) : ∀ m, m ≤ n →
    accL at' v (noughts n) (m * c) = (List.range n).map fun q => if q < m then sumU ((List.range c).map fun j => v (q * c + j)) else 0
  | 0, _ => by
    simp only [Nat.zero_mul, Nat.not_lt_zero, if_false]
    show noughts n = _
    unfold noughts
    rw [List.map_const', List.length_range]
  | m + 1, hm => by
    rw [Nat.succ_mul, acc_block at' v (noughts n) (m * c) m c (fun j hj => h m j (by omega) hj) (by simp [noughts]; omega), acc_all at' v n c h m (by omega)]
    apply List.ext_getElem
    · simp
    · intro q h1 h2
      simp only [List.length_set, List.length_map, List.length_range] at h1
      rw [List.getElem_set]
      simp only [List.getElem_map, List.getElem_range]
      by_cases e : m = q
      · subst e
        rw [if_pos rfl, if_pos (by omega), List.getD_eq_getElem?_getD]
        simp [h1]
      · rw [if_neg e]
        by_cases e2 : q < m
        · rw [if_pos e2, if_pos (by omega)]
        · rw [if_neg e2, if_neg (by omega)]

/-! ### A stage's gates -/
/-- Gate number j of all. -/
def gtN (N : Nt) (j : Nat) : Gt := (gatesN N).getD j Gt.z
/-- The number that a gate multiplies with. -/
def yvU (xs ws : List UInt64) (g : Gt) : UInt64 := if 0 ≤ g.w then ug ws g.w else ug xs g.x
def fromN (N : Nt) (s : Nat) : Nat := (rangeN N (s : Nat)).1.toNat
def manyN (N : Nt) (s : Nat) : Nat := (rangeN N (s : Nat)).2.toNat
def opA (N : Nt) (who : Int) (z : UInt64) (f : Nat) (xs ws : List UInt64) (j : Nat) : On := openU (ug xs (gtN N (f + j)).x) (yvU xs ws (gtN N (f + j))) (halfU z who (UInt64.ofNat (f + j)))
def clA (who : Int) (z : UInt64) (f : Nat) (ms ts : List UInt64) (j : Nat) : UInt64 :=
  closeU who (sumO ⟨ug ms ((2 * j : Nat) : Int), ug ms ((2 * j + 1 : Nat) : Int)⟩ ⟨ug ts ((2 * j : Nat) : Int), ug ts ((2 * j + 1 : Nat) : Int)⟩) (halfU z who (UInt64.ofNat (f + j)))
/-- What goes out at a stage of products, and what is behind its layer. -/
def goesU (N : Nt) (who : Int) (z : UInt64) (s : Nat) (xs ws : List UInt64) : List UInt64 := sayL (opA N who z (fromN N s) xs ws) (manyN N s)
def sumsU (N : Nt) (who : Int) (z : UInt64) (s : Nat) (ms ts : List UInt64) : List UInt64 :=
  accL (fun j => (gtN N (fromN N s + j)).a.toNat) (clA who z (fromN N s) ms ts) (noughts (atN N (stgN N s : Nat)).u.n.toNat) (manyN N s)

variable {c h x : Int} {ls : List Ly}
theorem stage_good (e : errN ⟨c, h, x, ls⟩ = 0) {s : Nat} (hs : s < (stagesN ⟨c, h, x, ls⟩).length) :
    Good (atN ⟨c, h, x, ls⟩ (stgN ⟨c, h, x, ls⟩ s : Nat)) ∧ (atN ⟨c, h, x, ls⟩ (stgN ⟨c, h, x, ls⟩ s : Nat)).l.k ≠ 3 := by
  obtain ⟨h1, h2, _⟩ := stg_at e hs
  exact ⟨good_i e h1, by rw [at_kind e h1]; exact h2⟩
theorem stage_range (e : errN ⟨c, h, x, ls⟩ = 0) {s : Nat} (hs : s < (stagesN ⟨c, h, x, ls⟩).length) :
    fromN ⟨c, h, x, ls⟩ s = (gatesK ⟨c, h, x, ls⟩ (stgN ⟨c, h, x, ls⟩ s)).length ∧ manyN ⟨c, h, x, ls⟩ s = (atN ⟨c, h, x, ls⟩ (stgN ⟨c, h, x, ls⟩ s : Nat)).u.n.toNat * (perK (atN ⟨c, h, x, ls⟩ (stgN ⟨c, h, x, ls⟩ s : Nat))).toNat := by
  obtain ⟨h1, h2, h3, h4⟩ := stg_at e hs
  obtain ⟨g, _⟩ := stage_good e hs
  have hS : stagesN ⟨c, h, x, ls⟩ = stK ls ls.length := if_pos e
  have ht : (stagesN ⟨c, h, x, ls⟩).take s = stK ls (stgN ⟨c, h, x, ls⟩ s) := by
    obtain ⟨r, hr⟩ := stK_pre ls (show stgN ⟨c, h, x, ls⟩ s ≤ ls.length by omega)
    rw [hS, hr]
    exact List.take_left' h3
  have hd : (stagesN ⟨c, h, x, ls⟩).getD s 0 = ((stgN ⟨c, h, x, ls⟩ s : Nat) : Int) := by rw [List.getD_eq_getElem?_getD, h4]; rfl
  unfold fromN manyN
  rw [range_yes hs]
  refine ⟨?_, ?_⟩
  · show (totP (((stagesN ⟨c, h, x, ls⟩).take s).map (atN ⟨c, h, x, ls⟩))).toNat = _
    rw [ht, st_sum e _ (by omega)]; omega
  · show ((atN ⟨c, h, x, ls⟩ ((stagesN ⟨c, h, x, ls⟩).getD s 0)).p).toNat = _
    rw [hd, ← per_all g]
    have a := size_bd (atN ⟨c, h, x, ls⟩ (stgN ⟨c, h, x, ls⟩ s : Nat)).u
    have b := per_bd g
    generalize (atN ⟨c, h, x, ls⟩ (stgN ⟨c, h, x, ls⟩ s : Nat)).u.n = P at a ⊢
    generalize perK (atN ⟨c, h, x, ls⟩ (stgN ⟨c, h, x, ls⟩ s : Nat)) = Q at b ⊢
    obtain ⟨p, rfl⟩ := Int.eq_ofNat_of_zero_le a.1
    obtain ⟨q, rfl⟩ := Int.eq_ofNat_of_zero_le b.1
    rw [← Int.natCast_mul, Int.toNat_natCast, Int.toNat_natCast, Int.toNat_natCast]
theorem stage_gate (e : errN ⟨c, h, x, ls⟩ = 0) {s : Nat} (hs : s < (stagesN ⟨c, h, x, ls⟩).length) {p j : Nat} (hp : p < (atN ⟨c, h, x, ls⟩ (stgN ⟨c, h, x, ls⟩ s : Nat)).u.n.toNat) (hj : j < (perK (atN ⟨c, h, x, ls⟩ (stgN ⟨c, h, x, ls⟩ s : Nat))).toNat) :
    ∃ t : Tm, (termsK (atN ⟨c, h, x, ls⟩ (stgN ⟨c, h, x, ls⟩ s : Nat)) (p : Nat))[j]? = some t ∧ gtN ⟨c, h, x, ls⟩ (fromN ⟨c, h, x, ls⟩ s + (p * (perK (atN ⟨c, h, x, ls⟩ (stgN ⟨c, h, x, ls⟩ s : Nat))).toNat + j)) = ⟨(stgN ⟨c, h, x, ls⟩ s : Nat), (p : Nat), (j : Nat), t.x, t.w⟩ := by
  obtain ⟨h1, h2, h3, h4⟩ := stg_at e hs
  obtain ⟨g, _⟩ := stage_good e hs
  have hl := terms_len g (p : Nat)
  have hj2 : j < (termsK (atN ⟨c, h, x, ls⟩ (stgN ⟨c, h, x, ls⟩ s : Nat)) (p : Nat)).length := by omega
  refine ⟨_, List.getElem?_eq_getElem hj2, ?_⟩
  unfold gtN
  rw [(stage_range e hs).1, List.getD_eq_getElem?_getD, gate_at e h1 (by omega) (List.getElem?_eq_getElem hj2)]
  rfl

/-- What is closed by both, of what both said of a gate. -/
theorem clA_exact (N : Nt) (z : UInt64) (f m : Nat) (xs us ws vs : List UInt64) (hx : xs.length = us.length) (hw : ws.length = vs.length) {j : Nat} (hj : j < m) :
    clA 0 z f (sayL (opA N 0 z f xs ws) m) (sayL (opA N 1 z f us vs) m) j + clA 1 z f (sayL (opA N 1 z f us vs) m) (sayL (opA N 0 z f xs ws) m) j = ug (addU xs us) (gtN N (f + j)).x * yvU (addU xs us) (addU ws vs) (gtN N (f + j)) := by
  obtain ⟨a1, a2⟩ := say_ug (opA N 0 z f xs ws) hj
  obtain ⟨b1, b2⟩ := say_ug (opA N 1 z f us vs) hj
  unfold clA
  rw [a1, a2, b1, b2]
  have hs : ∀ p q : On, sumO p q = sumO q p := fun p q => by unfold sumO; rw [UInt64.add_comm p.d, UInt64.add_comm p.e]
  have e1 : (⟨(opA N 0 z f xs ws j).d, (opA N 0 z f xs ws j).e⟩ : On) = opA N 0 z f xs ws j := rfl
  have e2 : (⟨(opA N 1 z f us vs j).d, (opA N 1 z f us vs j).e⟩ : On) = opA N 1 z f us vs j := rfl
  rw [e1, e2, hs (opA N 1 z f us vs j)]
  unfold opA
  rw [close_exact, ug_add hx]
  congr 1
  unfold yvU
  split
  · rw [ug_add hw]
  · rw [ug_add hx]
/-- The sum over a place's gates is its number. -/
theorem place_num {K : Kn} (g : Good K) (k3 : K.l.k ≠ 3) {p : Int} (hp : hasK K p = true) (xs ws : List UInt64) (v : Nat → UInt64) (hv : ∀ (j : Nat) (t : Tm), (termsK K p)[j]? = some t → v j = ug xs t.x * (if 0 ≤ t.w then ug ws t.w else ug xs t.x)) :
    sumU ((List.range (perK K).toNat).map v) = numK K xs ws p := by
  rw [← num_ref g hp]
  unfold numR
  have h0 : partsK K p = [] := by unfold partsK; rw [if_neg k3]
  rw [h0]
  simp only [List.map_nil, sumU, UInt64.add_zero]
  congr 1
  have hl := terms_len g p
  apply List.ext_getElem
  · simp; omega
  · intro j h1 h2
    simp only [List.getElem_map, List.getElem_range]
    simp only [List.length_map] at h2
    rw [hv j _ (List.getElem?_eq_getElem h2)]
    unfold termR
    by_cases q : 0 ≤ ((termsK K p)[j]).w
    · rw [if_pos q, if_neg (by omega)]
    · rw [if_neg q, if_pos (by omega)]
/-- What both parties have behind a stage's layer are parts of what the layer makes. -/
theorem sums_exact (e : errN ⟨c, h, x, ls⟩ = 0) {s : Nat} (hs : s < (stagesN ⟨c, h, x, ls⟩).length) (z : UInt64) {xs us ws vs : List UInt64} (hx : xs.length = us.length) (hw : ws.length = vs.length) :
    addU (sumsU ⟨c, h, x, ls⟩ 0 z s (goesU ⟨c, h, x, ls⟩ 0 z s xs ws) (goesU ⟨c, h, x, ls⟩ 1 z s us vs)) (sumsU ⟨c, h, x, ls⟩ 1 z s (goesU ⟨c, h, x, ls⟩ 1 z s us vs) (goesU ⟨c, h, x, ls⟩ 0 z s xs ws)) = layK (atN ⟨c, h, x, ls⟩ (stgN ⟨c, h, x, ls⟩ s : Nat)) (addU xs us) (addU ws vs) := by
  obtain ⟨g, k3⟩ := stage_good e hs
  obtain ⟨r1, r2⟩ := stage_range e hs
  unfold sumsU goesU
  rw [← acc_add _ _ _ (by simp [noughts])]
  rw [acc_congr _ (v' := fun j => ug (addU xs us) (gtN ⟨c, h, x, ls⟩ (fromN ⟨c, h, x, ls⟩ s + j)).x * yvU (addU xs us) (addU ws vs) (gtN ⟨c, h, x, ls⟩ (fromN ⟨c, h, x, ls⟩ s + j))) _ _ (fun j hj => clA_exact _ z _ _ xs us ws vs hx hw hj)]
  have hn : addU (noughts (atN ⟨c, h, x, ls⟩ (stgN ⟨c, h, x, ls⟩ s : Nat)).u.n.toNat) (noughts (atN ⟨c, h, x, ls⟩ (stgN ⟨c, h, x, ls⟩ s : Nat)).u.n.toNat) = noughts (atN ⟨c, h, x, ls⟩ (stgN ⟨c, h, x, ls⟩ s : Nat)).u.n.toNat := by
    unfold addU noughts
    rw [List.zipWith_replicate]
    simp
  rw [hn, r2, acc_all _ _ _ _ (fun p j hp hj => by
    obtain ⟨t, _, hg⟩ := stage_gate e hs hp hj
    rw [hg]; simp) _ (Nat.le_refl _)]
  unfold layK
  refine List.map_congr_left fun p hp => ?_
  rw [List.mem_range] at hp
  rw [if_pos hp]
  refine place_num g k3 (has_yes (by omega) (by omega)) _ _ _ fun j t ht => ?_
  have hj : j < (perK (atN ⟨c, h, x, ls⟩ (stgN ⟨c, h, x, ls⟩ s : Nat))).toNat := by
    have := (List.getElem?_eq_some_iff.1 ht).1
    have := terms_len g (p : Nat)
    omega
  obtain ⟨t', ht', hg⟩ := stage_gate e hs hp hj
  rw [ht] at ht'
  obtain rfl := Option.some.inj ht'
  rw [hg]
  rfl

end Go.Proofs.Ytklgjhldebdegaa

namespace Go.Proofs.Ytklgjhldebdegaa
open Go.RowKit

def isSt (N : Nt) (s : Int) : Bool := decide (errN N = 0 ∧ 0 ≤ s ∧ s ≤ ((stagesN N).length : Int))
theorem isSt_out {N : Nt} {s : Int} (h : isSt N s = true) : errN N = 0 ∧ 0 ≤ s ∧ s ≤ ((stagesN N).length : Int) := of_decide_eq_true h
theorem isSt_yes {N : Nt} {s : Int} (h : errN N = 0 ∧ 0 ≤ s ∧ s ≤ ((stagesN N).length : Int)) : isSt N s = true := decide_eq_true h
theorem isSt_no {N : Nt} {s : Int} (h : ¬ (errN N = 0 ∧ 0 ≤ s ∧ s ≤ ((stagesN N).length : Int))) : isSt N s = false := decide_eq_false h
/-- How many numbers go into a stage; -1 where there is none. -/
def inN (N : Nt) (s : Int) : Int := if isSt N s = true then (endS N.s (N.ls.take (stgN N s.toNat))).n else -1
def okFi (N : Nt) (xs : List UInt64) : Bool := decide (errN N = 0 ∧ (xs.length : Int) = N.s.n)
def firstU (N : Nt) (xs : List UInt64) : List UInt64 := if okFi N xs = true then poolsU N 0 xs else []
def okLn (N : Nt) (s : Int) (xs ws : List UInt64) : Bool := decide (isSt N s = true ∧ (xs.length : Int) = inN N s ∧ (ws.length : Int) = totW (knN N))
def lineU (N : Nt) (who : Int) (z : UInt64) (s : Int) (xs ws : List UInt64) : List UInt64 :=
  if okLn N s xs ws = true then (if s = ((stagesN N).length : Int) then xs else goesU N who z s.toNat xs ws) else []
def okNx (N : Nt) (s : Int) (ms ts : List UInt64) : Bool := decide (isSt N s = true ∧ (ms.length : Int) = (lineN N s).2 ∧ (ts.length : Int) = (lineN N s).2)
def nextU (N : Nt) (who : Int) (z : UInt64) (s : Int) (ms ts : List UInt64) : List UInt64 :=
  if okNx N s ms ts = true then (if s = ((stagesN N).length : Int) then addU ms ts else poolsU N (stgN N s.toNat + 1) (sumsU N who z s.toNat ms ts)) else []
theorem okLn_out {N : Nt} {s : Int} {xs ws : List UInt64} (h : okLn N s xs ws = true) : isSt N s = true ∧ (xs.length : Int) = inN N s ∧ (ws.length : Int) = totW (knN N) := of_decide_eq_true h
theorem okNx_out {N : Nt} {s : Int} {ms ts : List UInt64} (h : okNx N s ms ts = true) : isSt N s = true ∧ (ms.length : Int) = (lineN N s).2 ∧ (ts.length : Int) = (lineN N s).2 := of_decide_eq_true h
variable {c h x : Int} {ls : List Ly}
theorem in_yes {s : Nat} (e : errN ⟨c, h, x, ls⟩ = 0) (hs : s ≤ (stagesN ⟨c, h, x, ls⟩).length) : inN ⟨c, h, x, ls⟩ (s : Nat) = (endS ⟨c, h, x⟩ (ls.take (stgN ⟨c, h, x, ls⟩ s))).n := by
  unfold inN
  rw [if_pos (isSt_yes ⟨e, by omega, by omega⟩), Int.toNat_natCast]
  rfl
/-- A stage's layer takes as many. -/
theorem in_layer {s : Nat} (e : errN ⟨c, h, x, ls⟩ = 0) (hs : s < (stagesN ⟨c, h, x, ls⟩).length) : inN ⟨c, h, x, ls⟩ (s : Nat) = (atN ⟨c, h, x, ls⟩ (stgN ⟨c, h, x, ls⟩ s : Nat)).i.n := by
  rw [in_yes e (by omega), at_some e (get_ly (stg_at e hs).1)]
theorem in_last (e : errN ⟨c, h, x, ls⟩ = 0) : inN ⟨c, h, x, ls⟩ ((stagesN ⟨c, h, x, ls⟩).length : Nat) = (endS ⟨c, h, x⟩ ls).n := by
  rw [in_yes e (Nat.le_refl _), stg_end, List.take_of_length_le (Nat.le_refl _)]
theorem goes_len (N : Nt) (who : Int) (z : UInt64) (s : Nat) (xs ws : List UInt64) : (goesU N who z s xs ws).length = 2 * manyN N s := say_len _ _
theorem sums_len (N : Nt) (who : Int) (z : UInt64) (s : Nat) (ms ts : List UInt64) : (sumsU N who z s ms ts).length = (atN N (stgN N s : Nat)).u.n.toNat := by
  unfold sumsU; rw [acc_len]; simp [noughts]
theorem line_many {s : Nat} (e : errN ⟨c, h, x, ls⟩ = 0) (hs : s < (stagesN ⟨c, h, x, ls⟩).length) : (lineN ⟨c, h, x, ls⟩ (s : Nat)).2 = ((2 * manyN ⟨c, h, x, ls⟩ s : Nat) : Int) := by
  unfold lineN
  rw [if_neg (by omega)]
  show 2 * (rangeN ⟨c, h, x, ls⟩ (s : Nat)).2 = _
  have : 0 ≤ (rangeN ⟨c, h, x, ls⟩ (s : Nat)).2 := by
    rw [range_yes hs]
    show 0 ≤ (atN ⟨c, h, x, ls⟩ ((stagesN ⟨c, h, x, ls⟩).getD s 0)).p
    obtain ⟨h1, h2, h3, h4⟩ := stg_at e hs
    rw [show (stagesN ⟨c, h, x, ls⟩).getD s 0 = ((stgN ⟨c, h, x, ls⟩ s : Nat) : Int) by rw [List.getD_eq_getElem?_getD, h4]; rfl, ← per_all (stage_good e hs).1]
    exact Int.mul_nonneg (size_bd _).1 (per_bd (stage_good e hs).1).1
  unfold manyN
  omega
theorem line_last (e : errN ⟨c, h, x, ls⟩ = 0) : (lineN ⟨c, h, x, ls⟩ ((stagesN ⟨c, h, x, ls⟩).length : Nat)).2 = (endS ⟨c, h, x⟩ ls).n := by
  unfold lineN
  rw [if_pos ⟨e, rfl⟩]
  rfl
theorem many_pos {s : Nat} (e : errN ⟨c, h, x, ls⟩ = 0) (hs : s < (stagesN ⟨c, h, x, ls⟩).length) : 1 ≤ manyN ⟨c, h, x, ls⟩ s := by
  obtain ⟨g, k3⟩ := stage_good e hs
  rw [(stage_range e hs).2]
  have a := size_pos g.ur
  have b := per_pos g k3
  exact Nat.mul_pos (by omega) (by omega)
theorem many_bd {s : Nat} (e : errN ⟨c, h, x, ls⟩ = 0) (hs : s < (stagesN ⟨c, h, x, ls⟩).length) : fromN ⟨c, h, x, ls⟩ s + manyN ⟨c, h, x, ls⟩ s ≤ (gatesN ⟨c, h, x, ls⟩).length := by
  obtain ⟨h1, h2, h3, h4⟩ := stg_at e hs
  obtain ⟨g, _⟩ := stage_good e hs
  rw [(stage_range e hs).1, (stage_range e hs).2, ← gatesL_len g (stgN ⟨c, h, x, ls⟩ s : Nat), ← List.length_append, ← gatesK_next, show gatesN ⟨c, h, x, ls⟩ = gatesK ⟨c, h, x, ls⟩ ls.length from if_pos e]
  have key : ∀ {k m : Nat}, k ≤ m → (gatesK ⟨c, h, x, ls⟩ k).length ≤ (gatesK ⟨c, h, x, ls⟩ m).length := fun {k m} hkm => by
    rcases Nat.lt_or_ge (gatesK ⟨c, h, x, ls⟩ m).length (gatesK ⟨c, h, x, ls⟩ k).length with q | q
    · have := gatesK_pre _ hkm (List.getElem?_eq_getElem q)
      rw [List.getElem?_eq_none (Nat.le_refl _)] at this
      cases this
    · exact q
  exact key (by omega)
/-- What comes out of a line that fits fits. -/
theorem line_fits {s : Nat} {who who' : Int} {z z' : UInt64} {xs us ws vs : List UInt64} (h1 : okLn ⟨c, h, x, ls⟩ (s : Nat) xs ws = true) (h2 : okLn ⟨c, h, x, ls⟩ (s : Nat) us vs = true) :
    okNx ⟨c, h, x, ls⟩ (s : Nat) (lineU ⟨c, h, x, ls⟩ who z (s : Nat) xs ws) (lineU ⟨c, h, x, ls⟩ who' z' (s : Nat) us vs) = true := by
  obtain ⟨i1, i2, i3⟩ := okLn_out h1
  obtain ⟨j1, j2, j3⟩ := okLn_out h2
  obtain ⟨e, s0, s1⟩ := isSt_out i1
  refine decide_eq_true ⟨i1, ?_⟩
  unfold lineU
  rw [if_pos h1, if_pos h2]
  by_cases q : s = (stagesN ⟨c, h, x, ls⟩).length
  · subst q
    rw [if_pos rfl, if_pos rfl, line_last e, ← in_last e]
    exact ⟨i2, j2⟩
  · rw [if_neg (by omega), if_neg (by omega), Int.toNat_natCast, goes_len, goes_len, line_many e (by omega)]
    exact ⟨rfl, rfl⟩
/-- Both parties' parts behind a stage. -/
theorem next_exact {s : Nat} {z : UInt64} {xs us ws vs : List UInt64} (hs : s < (stagesN ⟨c, h, x, ls⟩).length) (h1 : okLn ⟨c, h, x, ls⟩ (s : Nat) xs ws = true) (h2 : okLn ⟨c, h, x, ls⟩ (s : Nat) us vs = true) :
    addU (nextU ⟨c, h, x, ls⟩ 0 z (s : Nat) (lineU ⟨c, h, x, ls⟩ 0 z (s : Nat) xs ws) (lineU ⟨c, h, x, ls⟩ 1 z (s : Nat) us vs)) (nextU ⟨c, h, x, ls⟩ 1 z (s : Nat) (lineU ⟨c, h, x, ls⟩ 1 z (s : Nat) us vs) (lineU ⟨c, h, x, ls⟩ 0 z (s : Nat) xs ws)) =
      poolsU ⟨c, h, x, ls⟩ (stgN ⟨c, h, x, ls⟩ s + 1) (layK (atN ⟨c, h, x, ls⟩ (stgN ⟨c, h, x, ls⟩ s : Nat)) (addU xs us) (addU ws vs)) ∧
    (nextU ⟨c, h, x, ls⟩ 0 z (s : Nat) (lineU ⟨c, h, x, ls⟩ 0 z (s : Nat) xs ws) (lineU ⟨c, h, x, ls⟩ 1 z (s : Nat) us vs)).length = (nextU ⟨c, h, x, ls⟩ 1 z (s : Nat) (lineU ⟨c, h, x, ls⟩ 1 z (s : Nat) us vs) (lineU ⟨c, h, x, ls⟩ 0 z (s : Nat) xs ws)).length := by
  obtain ⟨i1, i2, i3⟩ := okLn_out h1
  obtain ⟨j1, j2, j3⟩ := okLn_out h2
  obtain ⟨e, s0, s1⟩ := isSt_out i1
  have f1 := line_fits (who := 0) (who' := 1) (z := z) (z' := z) h1 h2
  have f2 := line_fits (who := 1) (who' := 0) (z := z) (z' := z) h2 h1
  obtain ⟨q1, q2, q3, _⟩ := stg_at e hs
  have hl : ∀ who z' ms ts, (sumsU ⟨c, h, x, ls⟩ who z' s ms ts).length = (atN ⟨c, h, x, ls⟩ (stgN ⟨c, h, x, ls⟩ s : Nat)).u.n.toNat := fun who z' ms ts => sums_len _ who z' s ms ts
  unfold nextU
  rw [if_pos f1, if_pos f2]
  unfold lineU
  rw [if_pos h1, if_pos h2]
  have ne : ¬ ((s : Nat) : Int) = ((stagesN ⟨c, h, x, ls⟩).length : Int) := by omega
  rw [if_neg ne, if_neg ne, if_neg ne, if_neg ne, Int.toNat_natCast]
  obtain ⟨a, b⟩ := pools_add e (ls.length - (stgN ⟨c, h, x, ls⟩ s + 1)) (stgN ⟨c, h, x, ls⟩ s + 1) (sumsU ⟨c, h, x, ls⟩ 0 z s (goesU ⟨c, h, x, ls⟩ 0 z s xs ws) (goesU ⟨c, h, x, ls⟩ 1 z s us vs)) (sumsU ⟨c, h, x, ls⟩ 1 z s (goesU ⟨c, h, x, ls⟩ 1 z s us vs) (goesU ⟨c, h, x, ls⟩ 0 z s xs ws)) rfl (by omega) (by rw [hl, hl])
  refine ⟨?_, b⟩
  rw [← a, sums_exact e hs z (by omega) (by omega)]

/-! ### All stages -/
theorem next_len {s : Nat} {who : Int} {z : UInt64} {ms ts : List UInt64} (hs : s < (stagesN ⟨c, h, x, ls⟩).length) (h1 : okNx ⟨c, h, x, ls⟩ (s : Nat) ms ts = true) : ((nextU ⟨c, h, x, ls⟩ who z (s : Nat) ms ts).length : Int) = inN ⟨c, h, x, ls⟩ ((s + 1 : Nat) : Int) := by
  obtain ⟨i1, _⟩ := okNx_out h1
  obtain ⟨e, _⟩ := isSt_out i1
  obtain ⟨q1, _⟩ := stg_at e hs
  unfold nextU
  rw [if_pos h1, if_neg (by omega), Int.toNat_natCast, in_yes e (by omega), stg_next e hs]
  refine pools_len e (ls.length - (stgN ⟨c, h, x, ls⟩ s + 1)) _ _ rfl (by omega) ?_
  rw [sums_len, run_end c h x ls (get_ly q1), at_some e (get_ly q1)]
  have := size_bd (outS (endS ⟨c, h, x⟩ (ls.take (stgN ⟨c, h, x, ls⟩ s))) (ls.getD (stgN ⟨c, h, x, ls⟩ s) Ly.z))
  show ((outS _ _).n.toNat : Int) = _
  omega
/-- Two parties, ahead of stage s: parts of what a run has there. -/
def Both (N : Nt) (X W : List UInt64) (s : Nat) (a b : List UInt64) : Prop := addU a b = runN N W (stgN N s) X ∧ (a.length : Int) = inN N (s : Nat) ∧ (b.length : Int) = inN N (s : Nat)
/-! ### What is said of other numbers, and with other seeds -/
theorem goes_unlike {s : Nat} (e : errN ⟨c, h, x, ls⟩ = 0) (hs : s < (stagesN ⟨c, h, x, ls⟩).length) (who : Int) {z z' : UInt64} (hz : z ≠ z') (xs ws : List UInt64) : goesU ⟨c, h, x, ls⟩ who z s xs ws ≠ goesU ⟨c, h, x, ls⟩ who z' s xs ws := by
  intro hh
  obtain ⟨h1, _⟩ := say_ug (opA ⟨c, h, x, ls⟩ who z (fromN ⟨c, h, x, ls⟩ s) xs ws) (many_pos e hs)
  obtain ⟨h2, _⟩ := say_ug (opA ⟨c, h, x, ls⟩ who z' (fromN ⟨c, h, x, ls⟩ s) xs ws) (many_pos e hs)
  unfold goesU at hh
  rw [hh, h2] at h1
  unfold opA openU at h1
  dsimp only at h1
  have hA : (halfU z' who (UInt64.ofNat (fromN ⟨c, h, x, ls⟩ s + 0))).a = (halfU z who (UInt64.ofNat (fromN ⟨c, h, x, ls⟩ s + 0))).a := by
    generalize ug xs (gtN ⟨c, h, x, ls⟩ (fromN ⟨c, h, x, ls⟩ s + 0)).x = u at h1
    grind
  unfold halfU at hA
  by_cases w0 : who = 0
  · rw [if_pos w0, if_pos w0] at hA
    exact hz (num_seed hA).symm
  · rw [if_neg w0, if_neg w0] at hA
    exact hz (num_seed hA).symm

end Go.Proofs.Ytklgjhldebdegaa

namespace Go.Proofs.Ytklgjhldebdegaa
open Go.RowKit

theorem Try.info27 : (Try.prog.info? 27).map (fun i => (i.zero, i.size, i.bytes)) = some (some (.int .u64 0), 1, 8) := by kernel_rfl
/-- A row that is being filled, number by number. -/
def SB9 (w : World) (g n k : Nat) (us : List UInt64) : Prop :=
  ∃ cs : Array Value, w.heap[g]? = some (.cells cs 27 (0, 0)) ∧ cs.size = n ∧ (∀ j, j < n → ∃ v : Int, cs[j]? = some (.int .u64 v)) ∧ ∀ j x, j < k → us[j]? = some x → cs[j]? = some (.int .u64 (uz x))
theorem SB9.lt {w : World} {g n k : Nat} {us : List UInt64} (h : SB9 w g n k us) : g < w.heap.size := by
  obtain ⟨cs, h1, _⟩ := h
  exact (Array.getElem?_eq_some_iff.1 h1).1
theorem SB9.start (w : World) (n : Nat) (us : List UInt64) : SB9 (w.alloc (.cells (madeCells #[.int .u64 0] n) 27)) w.heap.size n 0 us := by
  refine ⟨_, heap_alloc_new w _, size_madeCells _ _, fun j hj => ⟨0, ?_⟩, fun j _ hj => absurd hj (by omega)⟩
  simp [madeCells, hj, Nat.mod_one]
theorem SB9.below {w w' : World} {g n k : Nat} {us : List UInt64} (h : SB9 w g n k us) (hb : Below w.heap.size w w') : SB9 w' g n k us := by
  have hl := h.lt
  obtain ⟨cs, h1, h2⟩ := h
  exact ⟨cs, (hb.block g hl).trans h1, h2⟩
theorem SB9.drew {w : World} {g n k : Nat} {us : List UInt64} (h : SB9 w g n k us) : SB9 w.drew g n k us := h
theorem SB9.facts {w : World} {g n k : Nat} {us : List UInt64} (h : SB9 w g n k us) (hk : k < n) : (∃ v, w.cell? ⟨g, k, none⟩ = some (.int .u64 v)) ∧ w.frozen? ⟨g, k, none⟩ = false := by
  obtain ⟨cs, h1, h2, h3, _⟩ := h
  exact ⟨by rw [Lib.cell_of_heap h1]; exact h3 k hk, Lib.frozen_of_heap h1 k⟩
theorem SB9.step {w : World} {g n k : Nat} {us : List UInt64} {x : UInt64} (h : SB9 w g n k us) (hk : k < n) (hx : us[k]? = some x) : SB9 (w.setCell ⟨g, k, none⟩ (.int .u64 (uz x))) g n (k + 1) us := by
  obtain ⟨cs, h1, h2, h3, h4⟩ := h
  refine ⟨_, Lib.heap_setCell_same h1 _, by simp [h2], fun j hj => ?_, fun j y hj hy => ?_⟩
  · by_cases e : j = k
    · subst e; exact ⟨_, by rw [Array.getElem?_setIfInBounds_self_of_lt (by omega)]⟩
    · obtain ⟨v, hv⟩ := h3 j hj
      exact ⟨v, by rw [Array.getElem?_setIfInBounds_ne (by omega)]; exact hv⟩
  · by_cases e : j = k
    · subst e
      rw [hx] at hy
      obtain rfl := Option.some.inj hy
      rw [Array.getElem?_setIfInBounds_self_of_lt (by omega)]
    · rw [Array.getElem?_setIfInBounds_ne (by omega)]
      exact h4 j y (by omega) hy
theorem SB9.done {w : World} {g n : Nat} {us : List UInt64} (h : SB9 w g n n us) (hn : us.length = n) : Rg ucells w (some ⟨g, 0, none⟩) us := fun _ => by
  have hl := h.lt
  obtain ⟨cs, h1, h2, h3, h4⟩ := h
  refine ⟨g, 0, rfl, hl, fun j u hu => ?_⟩
  rw [Nat.zero_add, Lib.cell_of_heap h1]
  have hj : j < us.length := by
    have := (List.getElem?_eq_some_iff.1 hu).1
    rw [flat_len ucells_len] at this; omega
  have hx := List.getElem?_eq_getElem hj
  have := flat_get ucells_len us j 0 _ hx (by decide)
  rw [Nat.mul_one, Nat.add_zero] at this
  rw [this] at hu
  obtain rfl := Option.some.inj hu
  exact h4 j _ (by omega) hx


end Go.Proofs.Ytklgjhldebdegaa

namespace Go.Proofs.Ytklgjhldebdegaa
open Go.RowKit

theorem u_cell {w : World} {b off : Nat} {us : List UInt64} (h : ∀ j u, (us.flatMap ucells)[j]? = some u → w.cell? ⟨b, off + j, none⟩ = some u) {k : Nat} (hk : k < us.length) :
    w.cell? ⟨b, off + k, none⟩ = some (.int .u64 (uz (ug us (k : Nat)))) := by
  have q := Rg.at ucells_len h (ug_get hk)
  have := q 0 _ rfl
  rw [Nat.mul_one, Nat.add_zero] at this
  exact this
theorem i_cell {w : World} {b off : Nat} {xs : List Int} (h : ∀ j u, (xs.flatMap icells)[j]? = some u → w.cell? ⟨b, off + j, none⟩ = some u) {k : Nat} {x : Int} (hx : xs[k]? = some x) :
    w.cell? ⟨b, off + k, none⟩ = some (.int .i64 x) := by
  have q := Rg.at icells_len h hx
  have := q 0 _ rfl
  rw [Nat.mul_one, Nat.add_zero] at this
  exact this
theorem t_cells2 {w : World} {b off : Nat} {ts : List Tm} (h : ∀ j u, (ts.flatMap tcells)[j]? = some u → w.cell? ⟨b, off + j, none⟩ = some u) {k : Nat} {t : Tm} (ht : ts[k]? = some t) :
    w.cell? ⟨b, off + k * 2, none⟩ = some (.int .i64 t.x) ∧ w.cell? ⟨b, off + k * 2 + 1, none⟩ = some (.int .i64 t.w) := by
  have q := Rg.at tcells_len h ht
  exact ⟨q 0 _ rfl, q 1 _ rfl⟩
theorem take_next {α : Type} {l : List α} {k : Nat} {x : α} (h : l[k]? = some x) : l.take (k + 1) = l.take k ++ [x] := by
  rw [List.take_add_one, h]; rfl
theorem sum_next {α : Type} (f : α → UInt64) {l : List α} {k : Nat} {x : α} (h : l[k]? = some x) : sumU ((l.take (k + 1)).map f) = sumU ((l.take k).map f) + f x := by
  rw [take_next h, List.map_append]; exact sumU_snoc _ _

set_option maxHeartbeats 2000000 in
set_option maxRecDepth 100000 in
theorem products_clo (bn bi bx bw : Nat) (c h x : Int) (A X W : Option Addr) (cA n cX nx cW nw : Nat) (ls : List Ly) (xs ws : List UInt64) (i p : Int) (ts : List Tm) (w : World)
    (hx : Rl w A ls) (ln : n = ls.length) (hn : n ≤ 1000) (hX : Rg ucells w X xs) (lx : nx = xs.length) (hW : Rg ucells w W ws) (lw : nw = ws.length)
    (hts : termsN ⟨c, h, x, ls⟩ i p = ts) (hl : ts.length ≤ 5000) (hr : ∀ t ∈ ts, 0 ≤ t.x ∧ t.x < (nx : Int) ∧ 0 ≤ t.w ∧ t.w < (nw : Int))
    (hN : NB w bn c h x (.slice A n cA)) (hI : CB w bi 3 (.int .i64 i)) (hXb : CB w bx 28 (.slice X nx cX)) (hWb : CB w bw 28 (.slice W nw cW)) :
    Calls Try.prog 69 #[.int .i64 p, .pointer (some ⟨bn, 0, none⟩), .pointer (some ⟨bi, 0, none⟩), .pointer (some ⟨bx, 0, none⟩), .pointer (some ⟨bw, 0, none⟩)] w fun e w' => e = .returned (.int .u64 (uz (sumU (ts.map (termU xs ws))))) ∧ Below w.heap.size w w' := by
  have HX := Lib.hid hx; have LN := Lib.hid ln; have HXR := Lib.hid hX; have LX := Lib.hid lx; have HWR := Lib.hid hW; have LW := Lib.hid lw; have HTS := Lib.hid hts; have HR := Lib.hid hr
  have NN := Lib.hid hN; have CI := Lib.hid hI; have CX := Lib.hid hXb; have CW := Lib.hid hWb
  obtain ⟨c0, c1, c2, c3⟩ := hN.cells
  have ci := hI.cell
  clear hx ln hX lx hW lw hts hr hN hI hXb hWb
  go_enter Try.func69, Try.ntmps69
  go_wp2_with fail
  refine (terms_any c h x A cA n ls i p ts HTS.out _ HX.out LN.out hn).mono ?_
  rintro e w1 ⟨A1, k1, n1, rfl, hn1, hR1, hb1, hd1, hd2⟩
  have B1 := Lib.hid hb1; have R1 := Lib.hid hR1; have L1 := Lib.hid hn1
  have n5 : n1 ≤ 5000 := by omega
  clear hb1 hR1 hd1 hd2 hn1 c0 c1 c2 c3 ci hl
  go_wp2_with fail
  go_loopg [6, 8, 14] n1 (fun g s6 _ s14 wx => ∃ k : Nat, k ≤ n1 ∧ Hid (g = n1 - k) ∧ s6 = .int .u64 (uz (sumU ((ts.take k).map (termU xs ws)))) ∧ s14 = .int .i64 (k : Int) ∧ Hid (Below w1.heap.size w1 wx))
  case atStart => exact ⟨0, by omega, by show _ = _; omega, rfl, rfl, Below.refl _ _⟩
  case round =>
    obtain ⟨k, hk, HG, rfl, rfl, BK⟩ := hrel
    obtain ⟨s, hs⟩ : ∃ s, s = sumU ((ts.take k).map (termU xs ws)) := ⟨_, rfl⟩
    rw [← hs]
    have HS := Lib.hid hs
    clear hs
    by_cases kn : k < n1
    · have ki : (k : Int) < (n1 : Int) := by omega
      obtain ⟨b1, o1, rfl, l1, q1⟩ := R1.out (by rw [← L1.out]; omega)
      obtain ⟨t, ht⟩ : ∃ t, ts[k]? = some t := ⟨_, List.getElem?_eq_getElem (by rw [← L1.out]; exact kn)⟩
      obtain ⟨y0, y1⟩ := t_cells2 q1 ht
      have z0 := (BK.out.cell (p := ⟨b1, o1 + k * 2, none⟩) l1).trans y0
      have z1 := (BK.out.cell (p := ⟨b1, o1 + k * 2 + 1, none⟩) l1).trans y1
      obtain ⟨r1, r2, r3, r4⟩ := HR.out t (List.mem_of_getElem? ht)
      have HT := Lib.hid ht
      obtain ⟨tx, tw⟩ := t
      obtain ⟨jx, rfl⟩ : ∃ jx : Nat, tx = jx := ⟨tx.toNat, by have : 0 ≤ tx := r1; omega⟩
      obtain ⟨jw, rfl⟩ : ∃ jw : Nat, tw = jw := ⟨tw.toNat, by have : 0 ≤ tw := r3; omega⟩
      have r2 : (jx : Int) < (nx : Int) := r2
      have r4 : (jw : Int) < (nw : Int) := r4
      have z0 : wr.cell? ⟨b1, o1 + k * 2, none⟩ = some (.int .i64 (jx : Int)) := z0
      have z1 : wr.cell? ⟨b1, o1 + k * 2 + 1, none⟩ = some (.int .i64 (jw : Int)) := z1
      obtain ⟨b2, o2, rfl, l2, q2⟩ := HXR.out (by rw [← LX.out]; omega)
      obtain ⟨b3, o3, rfl, l3, q3⟩ := HWR.out (by rw [← LW.out]; omega)
      have BW := Lib.hid (chain B1.out BK.out)
      have v2 := (BW.out.cell (p := ⟨b2, o2 + jx, none⟩) l2).trans (u_cell q2 (show jx < xs.length by rw [← LX.out]; omega))
      have v3 := (BW.out.cell (p := ⟨b3, o3 + jw, none⟩) l3).trans (u_cell q3 (show jw < ws.length by rw [← LW.out]; omega))
      have cx := (CX.out.below BW.out).cell
      have cw := (CW.out.below BW.out).cell
      have lbx := (CX.out.below BW.out).lt
      have lbw := (CW.out.below BW.out).lt
      have l2' := Nat.lt_of_lt_of_le l2 BW.out.size
      have l3' := Nat.lt_of_lt_of_le l3 BW.out.size
      obtain ⟨ux, hux⟩ : ∃ u, u = ug xs (jx : Nat) := ⟨_, rfl⟩
      obtain ⟨uw, huw⟩ : ∃ u, u = ug ws (jw : Nat) := ⟨_, rfl⟩
      rw [← hux] at v2
      rw [← huw] at v3
      have HUX := Lib.hid hux; have HUW := Lib.hid huw
      clear q1 q2 q3 y0 y1 ht r1 r3 hux huw
      go_wp2_with fail
      go_quiet (fail)
      go_wp2_with fail
      go_roundg (n1 - (k + 1))
      case measure => have := HG.out; omega
      case rel => exact ⟨k + 1, by omega, rfl, by rw [uz_mul, uz_add, sum_next _ HT.out, ← HS.out, termU, HUX.out, HUW.out], by go_num, below_drewN (chain_alloc BK.out _) _⟩
    · obtain rfl : k = n1 := by omega
      have e : ts.take k = ts := by rw [L1.out, List.take_length]
      have hs := HS.out
      rw [e] at hs
      have HS2 := Lib.hid hs
      clear hs
      go_wp2_with fail
      go_ret
      exact ⟨by rw [HS2.out]; rfl, chain B1.out BK.out⟩

set_option maxHeartbeats 2000000 in
set_option maxRecDepth 100000 in
theorem parts_clo (bn bi bx : Nat) (c h x : Int) (A X : Option Addr) (cA n cX nx : Nat) (ls : List Ly) (xs : List UInt64) (i p : Int) (ts : List Int) (w : World)
    (hx : Rl w A ls) (ln : n = ls.length) (hn : n ≤ 1000) (hX : Rg ucells w X xs) (lx : nx = xs.length)
    (hts : partsN ⟨c, h, x, ls⟩ i p = ts) (hl : ts.length ≤ 5000) (hr : ∀ t ∈ ts, 0 ≤ t ∧ t < (nx : Int))
    (hN : NB w bn c h x (.slice A n cA)) (hI : CB w bi 3 (.int .i64 i)) (hXb : CB w bx 28 (.slice X nx cX)) :
    Calls Try.prog 72 #[.int .i64 p, .pointer (some ⟨bn, 0, none⟩), .pointer (some ⟨bi, 0, none⟩), .pointer (some ⟨bx, 0, none⟩)] w fun e w' => e = .returned (.int .u64 (uz (sumU (ts.map (ug xs))))) ∧ Below w.heap.size w w' := by
  have HX := Lib.hid hx; have LN := Lib.hid ln; have HXR := Lib.hid hX; have LX := Lib.hid lx; have HTS := Lib.hid hts; have HR := Lib.hid hr
  have NN := Lib.hid hN; have CI := Lib.hid hI; have CX := Lib.hid hXb
  obtain ⟨c0, c1, c2, c3⟩ := hN.cells
  have ci := hI.cell
  clear hx ln hX lx hts hr hN hI hXb
  go_enter Try.func72, Try.ntmps72
  go_wp2_with fail
  refine (parts_any c h x A cA n ls i p ts HTS.out _ HX.out LN.out hn).mono ?_
  rintro e w1 ⟨A1, k1, n1, rfl, hn1, hR1, hb1, hd1, hd2⟩
  have B1 := Lib.hid hb1; have R1 := Lib.hid hR1; have L1 := Lib.hid hn1
  have n5 : n1 ≤ 5000 := by omega
  clear hb1 hR1 hd1 hd2 hn1 c0 c1 c2 c3 ci hl
  go_wp2_with fail
  go_loopg [5, 7, 13] n1 (fun g s6 _ s14 wx => ∃ k : Nat, k ≤ n1 ∧ Hid (g = n1 - k) ∧ s6 = .int .u64 (uz (sumU ((ts.take k).map (ug xs)))) ∧ s14 = .int .i64 (k : Int) ∧ Hid (Below w1.heap.size w1 wx))
  case atStart => exact ⟨0, by omega, by show _ = _; omega, rfl, rfl, Below.refl _ _⟩
  case round =>
    obtain ⟨k, hk, HG, rfl, rfl, BK⟩ := hrel
    obtain ⟨s, hs⟩ : ∃ s, s = sumU ((ts.take k).map (ug xs)) := ⟨_, rfl⟩
    rw [← hs]
    have HS := Lib.hid hs
    clear hs
    by_cases kn : k < n1
    · have ki : (k : Int) < (n1 : Int) := by omega
      obtain ⟨b1, o1, rfl, l1, q1⟩ := R1.out (by rw [← L1.out]; omega)
      obtain ⟨t, ht⟩ : ∃ t, ts[k]? = some t := ⟨_, List.getElem?_eq_getElem (by rw [← L1.out]; exact kn)⟩
      have z0 := (BK.out.cell (p := ⟨b1, o1 + k, none⟩) l1).trans (i_cell q1 ht)
      obtain ⟨r1, r2⟩ := HR.out t (List.mem_of_getElem? ht)
      have HT := Lib.hid ht
      obtain ⟨jx, rfl⟩ : ∃ jx : Nat, t = jx := ⟨t.toNat, by omega⟩
      obtain ⟨b2, o2, rfl, l2, q2⟩ := HXR.out (by rw [← LX.out]; omega)
      have BW := Lib.hid (chain B1.out BK.out)
      have v2 := (BW.out.cell (p := ⟨b2, o2 + jx, none⟩) l2).trans (u_cell q2 (show jx < xs.length by rw [← LX.out]; omega))
      have cx := (CX.out.below BW.out).cell
      obtain ⟨ux, hux⟩ : ∃ u, u = ug xs (jx : Nat) := ⟨_, rfl⟩
      rw [← hux] at v2
      have HUX := Lib.hid hux
      clear q1 q2 ht r1 hux
      go_wp2_with fail
      go_roundg (n1 - (k + 1))
      case measure => have := HG.out; omega
      case rel => exact ⟨k + 1, by omega, rfl, by rw [uz_add, sum_next _ HT.out, ← HS.out, HUX.out], by go_num, BK⟩
    · obtain rfl : k = n1 := by omega
      have e : ts.take k = ts := by rw [L1.out, List.take_length]
      have hs := HS.out
      rw [e] at hs
      have HS2 := Lib.hid hs
      clear hs
      go_wp2_with fail
      go_ret
      exact ⟨by rw [HS2.out]; rfl, chain B1.out BK.out⟩

set_option maxHeartbeats 1000000 in
set_option maxRecDepth 100000 in
theorem square_clo (bx : Nat) (X : Option Addr) (cX nx : Nat) (xs : List UInt64) (p : Nat) (w : World)
    (hX : Rg ucells w X xs) (lx : nx = xs.length) (hp : p < nx) (hXb : CB w bx 28 (.slice X nx cX)) :
    Calls Try.prog 71 #[.int .i64 (p : Int), .pointer (some ⟨bx, 0, none⟩)] w fun e w' => e = .returned (.int .u64 (uz (ug xs (p : Nat) * ug xs (p : Nat)))) ∧ Below w.heap.size w w' := by
  have cx := hXb.cell
  obtain ⟨b2, o2, rfl, l2, q2⟩ := hX (by omega)
  have v2 := u_cell q2 (show p < xs.length by omega)
  obtain ⟨u, hu⟩ : ∃ u, u = ug xs (p : Nat) := ⟨_, rfl⟩
  rw [← hu] at v2
  rw [← hu]
  have pi : (p : Int) < (nx : Int) := by omega
  have lb := hXb.lt
  clear q2 hu lx hX hXb
  go_enter Try.func71, Try.ntmps71
  go_wp2_with fail
  go_quiet (fail)
  go_wp2_with fail
  go_ret
  exact ⟨by rw [uz_mul]; rfl, below_drewN (Below.refl _ w) _⟩

end Go.Proofs.Ytklgjhldebdegaa

namespace Go.Proofs.Ytklgjhldebdegaa
open Go.RowKit

/-- What a kind of layer does: a closure. -/
structure Dg where
  k : Int
  f : Nat
  caps : Array Value
def dcells (d : Dg) : List Value := [.int .i64 d.k, .func (.func d.f) #[] d.caps]
theorem dcells_len (d : Dg) : (dcells d).length = 2 := rfl
theorem d_cells {w : World} {b off : Nat} {ds : List Dg} (h : ∀ j u, (ds.flatMap dcells)[j]? = some u → w.cell? ⟨b, off + j, none⟩ = some u) {k : Nat} {d : Dg} (hd : ds[k]? = some d) :
    w.cell? ⟨b, off + k * 2, none⟩ = some (.int .i64 d.k) ∧ w.cell? ⟨b, off + k * 2 + 1, none⟩ = some (.func (.func d.f) #[] d.caps) := by
  have q := Rg.at dcells_len h hd
  exact ⟨q 0 _ rfl, q 1 _ rfl⟩
def pt (b : Nat) : Value := .pointer (some ⟨b, 0, none⟩)
def doingsL (b : Nat) : List Dg := [⟨1, 69, #[pt b, pt (b + 1), pt (b + 2), pt (b + 3)]⟩, ⟨2, 71, #[pt (b + 2)]⟩, ⟨3, 72, #[pt b, pt (b + 1), pt (b + 2)]⟩, ⟨4, 69, #[pt b, pt (b + 1), pt (b + 2), pt (b + 3)]⟩]
/-- The four variables that closures of doings look at. -/
def Four (w : World) (b : Nat) (c h x : Int) (v : Value) (i : Int) (vx vw : Value) : Prop := NB w b c h x v ∧ CB w (b + 1) 3 (.int .i64 i) ∧ CB w (b + 2) 28 vx ∧ CB w (b + 3) 28 vw
theorem Four.below {w w' : World} {b : Nat} {c h x : Int} {v : Value} {i : Int} {vx vw : Value} (H : Four w b c h x v i vx vw) (hb : Below w.heap.size w w') : Four w' b c h x v i vx vw :=
  ⟨H.1.below hb, H.2.1.below hb, H.2.2.1.below hb, H.2.2.2.below hb⟩
theorem new_at {w : World} {o : Obj} {k : Nat} (h : k = w.heap.size) : (w.alloc o).heap[k]? = some o := by subst h; exact heap_alloc_new w o
theorem cb_new (w : World) (T : Nat) (v : Value) : CB (w.alloc (.cells #[v] T)) w.heap.size T v := heap_alloc_new w _
theorem cb_alloc {w : World} {b T : Nat} {v : Value} (H : CB w b T v) (o : Obj) : CB (w.alloc o) b T v := (Lib.alloc_old w o b H.lt).trans H
theorem Four.new (w : World) (c h x : Int) (v : Value) (i : Int) (vx vw : Value) :
    Four ((((w.alloc (.cells #[.int .i64 c, .int .i64 h, .int .i64 x, v] 26)).alloc (.cells #[.int .i64 i] 3)).alloc (.cells #[vx] 28)).alloc (.cells #[vw] 28)) w.heap.size c h x v i vx vw := by
  refine ⟨(((NB.new w c h x v).alloc _).alloc _).alloc _, ?_, ?_, ?_⟩
  · have := cb_alloc (cb_alloc (cb_new (w.alloc (.cells #[.int .i64 c, .int .i64 h, .int .i64 x, v] 26)) 3 (.int .i64 i)) (.cells #[vx] 28)) (.cells #[vw] 28)
    rwa [show (w.alloc (.cells #[.int .i64 c, .int .i64 h, .int .i64 x, v] 26)).heap.size = w.heap.size + 1 by simp] at this
  · have := cb_alloc (cb_new ((w.alloc (.cells #[.int .i64 c, .int .i64 h, .int .i64 x, v] 26)).alloc (.cells #[.int .i64 i] 3)) 28 vx) (.cells #[vw] 28)
    rwa [show ((w.alloc (.cells #[.int .i64 c, .int .i64 h, .int .i64 x, v] 26)).alloc (.cells #[.int .i64 i] 3)).heap.size = w.heap.size + 2 by simp] at this
  · have := cb_new (((w.alloc (.cells #[.int .i64 c, .int .i64 h, .int .i64 x, v] 26)).alloc (.cells #[.int .i64 i] 3)).alloc (.cells #[vx] 28)) 28 vw
    rwa [show (((w.alloc (.cells #[.int .i64 c, .int .i64 h, .int .i64 x, v] 26)).alloc (.cells #[.int .i64 i] 3)).alloc (.cells #[vx] 28)).heap.size = w.heap.size + 3 by simp] at this

set_option maxHeartbeats 1000000 in
set_option maxRecDepth 100000 in
theorem doings_any (c h x : Int) (A : Option Addr) (cA n : Nat) (i : Int) (X W : Option Addr) (cX nx cW nw : Nat) (w : World) :
    Calls Try.prog 64 #[.agg #[.int .i64 c, .int .i64 h, .int .i64 x, .slice A n cA], .int .i64 i, .slice X nx cX, .slice W nw cW] w fun e w' => ∃ g : Nat, e = .returned (.slice (some ⟨g, 0, none⟩) 4 4) ∧ Rg dcells w' (some ⟨g, 0, none⟩) (doingsL w.heap.size) ∧ Four w' w.heap.size c h x (.slice A n cA) i (.slice X nx cX) (.slice W nw cW) ∧ Below w.heap.size w w' := by
  have hmf : ∀ (fn : Fn) (first cap : Array Value) (w : World), (Instr.makeFunc fn first cap).run Try.prog w = .ok (.func fn first cap) w := fun _ _ _ _ => rfl
  have F4 := Lib.hid (Four.new w c h x (.slice A n cA) i (.slice X nx cX) (.slice W nw cW))
  go_enter Try.func64, Try.ntmps64
  go_wp2_with fail
  go_ret
  refine ⟨_, rfl, rg_block (new_at (by simp)) (by rfl), F4.out.below ((Below.refl _ _).alloc (Nat.le_refl _) _), ?_⟩
  repeat first | exact Below.refl _ _ | refine chain_alloc ?_ _

set_option maxHeartbeats 1000000 in
set_option maxRecDepth 100000 in
theorem same_kind (bn bi : Nat) (c h x : Int) (A : Option Addr) (cA n : Nat) (ls : List Ly) (i : Nat) (l : Ly) (d : Dg) (w : World) (hx : Rl w A ls) (hl : ls[i]? = some l) (hn : i < n) (hN : NB w bn c h x (.slice A n cA)) (hI : CB w bi 3 (.int .i64 (i : Int))) :
    Calls Try.prog 66 #[.agg #[.int .i64 d.k, .func (.func d.f) #[] d.caps], pt bn, pt bi] w fun e w' => e = .returned (.bool (d.k == l.k)) ∧ Below w.heap.size w w' := by
  obtain ⟨c0, c1, c2, c3⟩ := hN.cells
  have ci := hI.cell
  have lN := hN.lt
  have lI := hI.lt
  obtain ⟨b, o, rfl, lb, q⟩ := hx (by have := (List.getElem?_eq_some_iff.1 hl).1; omega)
  have hil := (List.getElem?_eq_some_iff.1 hl).1
  have hle : ls.getD i Ly.z = l := Option.some.inj ((get_ly hil).symm.trans hl)
  obtain ⟨q0, q1, q2, q3⟩ := q i hil
  rw [hle] at q0 q1 q2 q3
  have ii : (i : Int) < (n : Int) := by omega
  clear q hl hx hN hI hle hil
  unfold pt
  go_enter Try.func66, Try.ntmps66
  go_wp2_with fail
  go_quiet (fail)
  go_wp2_with fail
  go_ret
  exact ⟨rfl, below_drewN (chain_alloc (Below.refl _ w) _) _⟩

theorem same_kind_is (bn bi : Nat) (c h x : Int) (A : Option Addr) (cA n : Nat) (ls : List Ly) (i : Nat) (l : Ly) (d : Dg) (r : Bool) (hr : (d.k == l.k) = r) (w : World) (hx : Rl w A ls) (hl : ls[i]? = some l) (hn : i < n) (hN : NB w bn c h x (.slice A n cA)) (hI : CB w bi 3 (.int .i64 (i : Int))) :
    Calls Try.prog 66 #[.agg #[.int .i64 d.k, .func (.func d.f) #[] d.caps], pt bn, pt bi] w fun e w' => e = .returned (.bool r) ∧ Below w.heap.size w w' := by
  subst hr
  exact same_kind bn bi c h x A cA n ls i l d w hx hl hn hN hI

set_option maxHeartbeats 1000000 in
set_option maxRecDepth 100000 in
theorem index_any (bn bi : Nat) (c h x : Int) (A : Option Addr) (cA n : Nat) (ls : List Ly) (i : Nat) (l : Ly) (g m t : Nat) (ds : List Dg) (w : World) (hx : Rl w A ls) (hl : ls[i]? = some l) (hn : i < n) (hN : NB w bn c h x (.slice A n cA)) (hI : CB w bi 3 (.int .i64 (i : Int)))
    (hd : Rg dcells w (some ⟨g, 0, none⟩) ds) (hm : m = ds.length) (hm1 : m ≤ 1000) (ht : t < m) (hne : ∀ j, j < t → ∀ d, ds[j]? = some d → (d.k == l.k) = false) (hyes : ∀ d, ds[t]? = some d → (d.k == l.k) = true) :
    Calls Try.prog 65 #[.slice (some ⟨g, 0, none⟩) m m, .func (.func 66) #[] #[pt bn, pt bi]] w fun e w' => e = .returned (.int .i64 (t : Int)) ∧ Below w.heap.size w w' := by
  have HX := Lib.hid hx; have HL := Lib.hid hl; have NN := Lib.hid hN; have CI := Lib.hid hI; have HD := Lib.hid hd; have HM := Lib.hid hm; have NE := Lib.hid hne; have YES := Lib.hid hyes
  clear hx hl hN hI hd hm hne hyes
  have hn' := Lib.hid hn
  clear hn
  go_enter Try.func65, Try.ntmps65
  go_wp2_with fail
  go_loopg [5, 8] m (fun gh _ s8 wx => ∃ k : Nat, k ≤ t ∧ Hid (gh = m - k) ∧ s8 = .int .i64 (k : Int) ∧ Hid (Below w.heap.size w wx))
  case atStart => exact ⟨0, by omega, by show _ = _; omega, rfl, Below.refl _ _⟩
  case round =>
    obtain ⟨k, hk, HG, rfl, BK⟩ := hrel
    have ki : (k : Int) < (m : Int) := by omega
    obtain ⟨b1, o1, e1, l1, q1⟩ := HD.out (by rw [← HM.out]; omega)
    injection e1 with e1
    injection e1 with e2 e3 e4
    subst e2 e3
    obtain ⟨d, hd⟩ : ∃ d, ds[k]? = some d := ⟨_, List.getElem?_eq_getElem (by rw [← HM.out]; omega)⟩
    obtain ⟨y0, y1⟩ := d_cells q1 hd
    rw [Nat.zero_add] at y0 y1
    have z0 := (BK.out.cell (p := ⟨g, k * 2, none⟩) l1).trans y0
    have z1 := (BK.out.cell (p := ⟨g, k * 2 + 1, none⟩) l1).trans y1
    have HDD := Lib.hid hd
    clear y0 y1 q1 hd e4
    by_cases kt : k < t
    · have RF := Lib.hid (NE.out k kt d HDD.out)
      go_wp2_with fail
      refine (same_kind_is bn bi c h x A cA n ls i l d false RF.out _ (HX.out.below BK.out) HL.out hn'.out (NN.out.below BK.out) (CI.out.below BK.out)).mono ?_
      rintro e w2 ⟨rfl, hb⟩
      have B2 := Lib.hid (chain BK.out hb)
      clear hb
      go_wp2_with fail
      go_roundg (m - (k + 1))
      case measure => have := HG.out; omega
      case rel => exact ⟨k + 1, by omega, rfl, by go_num, B2⟩
    · obtain rfl : k = t := by omega
      have RT := Lib.hid (YES.out d HDD.out)
      go_wp2_with fail
      refine (same_kind_is bn bi c h x A cA n ls i l d true RT.out _ (HX.out.below BK.out) HL.out hn'.out (NN.out.below BK.out) (CI.out.below BK.out)).mono ?_
      rintro e w2 ⟨rfl, hb⟩
      have B2 := Lib.hid (chain BK.out hb)
      clear hb
      go_wp2_with fail
      go_ret
      exact ⟨rfl, B2.out⟩

/-! ### Which closure -/
theorem aw_le {c h x : Int} {ls : List Ly} (e : errN ⟨c, h, x, ls⟩ = 0) {j : Nat} (hj : j < ls.length) : (atN ⟨c, h, x, ls⟩ (j : Nat)).a + (atN ⟨c, h, x, ls⟩ (j : Nat)).w ≤ totW (knN ⟨c, h, x, ls⟩) := by
  have hl := get_ly hj
  rw [(tots e).1, at_some e hl]
  show sumW ⟨c, h, x⟩ (ls.take j) + wI (endS ⟨c, h, x⟩ (ls.take j)) (ls.getD j Ly.z) ≤ _
  obtain ⟨r, f3, t, _⟩ := ok_all e
  have r : (⟨c, h, x⟩ : Sh).r = true := r
  have h2 : sumW ⟨c, h, x⟩ (ls.take (j + 1)) = sumW ⟨c, h, x⟩ (ls.take j) + wI (endS ⟨c, h, x⟩ (ls.take j)) (ls.getD j Ly.z) := by
    rw [List.take_add_one, hl, Option.toList, w_app]
    show _ + (_ + 0) = _
    omega
  have h1 := (List.take_append_drop (j + 1) ls).symm
  have a1 := f3
  have t1 := t
  rw [h1] at a1 t1
  rw [fit_app, Bool.and_eq_true] at t1
  obtain ⟨q1, q2⟩ := all_parts a1
  have h3 := (sums_nn (end_right _ _ r q1 t1.1) q2 t1.2).1
  have h4 : sumW ⟨c, h, x⟩ ls = sumW ⟨c, h, x⟩ (ls.take (j + 1)) + sumW (endS ⟨c, h, x⟩ (ls.take (j + 1))) (ls.drop (j + 1)) := by
    rw [← w_app, List.take_append_drop]
  omega
theorem parts_rng {K : Kn} (g : Good K) {p : Int} (hp : hasK K p = true) : (partsK K p).length ≤ 5000 ∧ ∀ t ∈ partsK K p, 0 ≤ t ∧ t < K.i.n := by
  unfold partsK
  by_cases k3 : K.l.k = 3
  · rw [if_pos k3]
    obtain ⟨s1, d1, d2, hu⟩ := g.pool k3
    obtain ⟨r1, r2, r3, r4, r5, r6, _⟩ := right_bd g.2.1
    obtain ⟨⟨c0, c1⟩, ⟨y0, y1⟩, ⟨x0, x1⟩⟩ := of_bd (s := K.u) hp
    have hc : K.u.c = K.i.c := by rw [hu]
    have hh : K.u.h = K.i.h / K.l.s := by rw [hu]
    have hx : K.u.x = K.i.x / K.l.s := by rw [hu]
    have s12 : K.l.s ≤ 12 := by
      by_cases hle : K.l.s ≤ K.i.h
      · omega
      · rw [Int.emod_eq_of_lt (by omega) (by omega)] at d1; omega
    have fit : ∀ {H y : Int}, H % K.l.s = 0 → y < H / K.l.s → ∀ r : Nat, (r : Int) < K.l.s → y * K.l.s + r < H := fun {H y} hd hy r hr => by
      have a : (y + 1) * K.l.s ≤ H / K.l.s * K.l.s := Int.mul_le_mul_of_nonneg_right (by omega) (by omega)
      have b : H / K.l.s * K.l.s ≤ H := Int.ediv_mul_le _ (by omega)
      rw [Int.add_mul, Int.one_mul] at a
      omega
    refine ⟨?_, fun t ht => ?_⟩
    · unfold winL
      rw [win_len]
      have : K.l.s.toNat * K.l.s.toNat ≤ 12 * 12 := Nat.mul_le_mul (by omega) (by omega)
      omega
    · obtain ⟨r, q, hr, hq, rfl⟩ := win_mem.1 ht
      have m1 := Int.mul_nonneg y0 (show 0 ≤ K.l.s by omega)
      have m2 := Int.mul_nonneg x0 (show 0 ≤ K.l.s by omega)
      exact at_in_bd (insideB_yes g.2.1 ⟨by omega, by omega, by omega, fit d1 (by omega) r (by omega), by omega, fit d2 (by omega) q (by omega)⟩)
  · rw [if_neg k3]; exact ⟨by simp, fun t ht => by simp at ht⟩

set_option maxHeartbeats 1000000 in
set_option maxRecDepth 100000 in
theorem sel (b : Nat) (c h x : Int) (A X W : Option Addr) (cA n cX nx cW nw : Nat) (ls : List Ly) (xs ws : List UInt64) (i : Nat) (K : Kn)
    (ln : n = ls.length) (hn : n ≤ 1000) (lx : nx = xs.length) (lw : nw = ws.length) (hE : errN ⟨c, h, x, ls⟩ = 0) (hi : i < n) (hK : K = atN ⟨c, h, x, ls⟩ (i : Nat)) (hxn : (nx : Int) = K.i.n) (hwn : (nw : Int) = totW (knN ⟨c, h, x, ls⟩)) :
    ∃ (t F : Nat) (caps : Array Value), t < 4 ∧ (doingsL b)[t]? = some ⟨K.l.k, F, caps⟩ ∧ (∀ j, j < t → ∀ d, (doingsL b)[j]? = some d → (d.k == K.l.k) = false) ∧ (∀ args w, Sem.run Try.prog (callFunc F args) w = .ok (.enter F args) w) ∧
      ∀ (p : Nat) (w' : World), (p : Int) < K.u.n → Four w' b c h x (.slice A n cA) (i : Int) (.slice X nx cX) (.slice W nw cW) → Rl w' A ls → Rg ucells w' X xs → Rg ucells w' W ws →
        Calls Try.prog F (#[.int .i64 (p : Int)] ++ caps) w' fun e w'' => e = .returned (.int .u64 (uz (numK K xs ws (p : Nat)))) ∧ Below w'.heap.size w' w'' := by
  have g : Good K := by rw [hK]; exact good_at (isB_yes ⟨hE, by omega, by show (i : Int) < (ls.length : Int); omega⟩)
  have haw : K.a + K.w ≤ (nw : Int) := by rw [hwn, hK]; exact aw_le hE (by omega)
  have prod : K.l.k ≠ 2 → K.l.k ≠ 3 → ∀ (p : Nat) (w' : World), (p : Int) < K.u.n → Four w' b c h x (.slice A n cA) (i : Int) (.slice X nx cX) (.slice W nw cW) → Rl w' A ls → Rg ucells w' X xs → Rg ucells w' W ws →
        Calls Try.prog 69 (#[.int .i64 (p : Int)] ++ #[pt b, pt (b + 1), pt (b + 2), pt (b + 3)]) w' fun e w'' => e = .returned (.int .u64 (uz (numK K xs ws (p : Nat)))) ∧ Below w'.heap.size w' w'' := fun k2 k3 p w' hp F4 hl hX hW => by
    have hh : hasK K (p : Nat) = true := has_yes (by omega) hp
    have hlen := terms_len g (p : Nat)
    have hper := per_bd g
    have := products_clo b (b + 1) (b + 2) (b + 3) c h x A X W cA n cX nx cW nw ls xs ws i p (termsK K (p : Nat)) w' hl ln hn hX lx hW lw (by have := hh; rw [hK] at this ⊢; exact termsN_is this) (by omega) (fun t ht => by
      obtain ⟨h1, h2, _, h4⟩ := terms_rng g hh t ht
      have := h4 (w_yes g k2 k3)
      have := g.2.2.2.2.1
      omega) F4.1 F4.2.1 F4.2.2.1 F4.2.2.2
    have en : numK K xs ws (p : Nat) = sumU ((termsK K (p : Nat)).map (termU xs ws)) := by unfold numK; rw [if_neg k2, if_neg k3]
    rw [en]
    exact this
  rcases g.kind with k | k | k | k
  · exact ⟨0, 69, _, by omega, by rw [k]; rfl, fun j hj => absurd hj (by omega), by intro args w; go_simp, prod (by omega) (by omega)⟩
  · refine ⟨1, 71, _, by omega, by rw [k]; rfl, fun j hj d hd => ?_, by intro args w; go_simp, fun p w' hp F4 hl hX hW => ?_⟩
    · obtain rfl : j = 0 := by omega
      have hd := (Option.some.inj hd).symm
      rw [hd, k]; rfl
    · have hu := g.square k
      have en : numK K xs ws (p : Nat) = ug xs (p : Nat) * ug xs (p : Nat) := by unfold numK; rw [if_pos k]
      rw [en]
      exact square_clo (b + 2) X cX nx xs p w' hX lx (by rw [hu] at hp; omega) F4.2.2.1
  · refine ⟨2, 72, _, by omega, by rw [k]; rfl, fun j hj d hd => ?_, by intro args w; go_simp, fun p w' hp F4 hl hX hW => ?_⟩
    · have : j = 0 ∨ j = 1 := by omega
      rcases this with rfl | rfl
      · have hd := (Option.some.inj hd).symm
        rw [hd, k]; rfl
      · have hd := (Option.some.inj hd).symm
        rw [hd, k]; rfl
    · have hh : hasK K (p : Nat) = true := has_yes (by omega) hp
      obtain ⟨p1, p2⟩ := parts_rng g hh
      have en : numK K xs ws (p : Nat) = sumU ((partsK K (p : Nat)).map (ug xs)) := by unfold numK; rw [if_neg (show ¬ K.l.k = 2 by omega), if_pos k]
      rw [en]
      exact parts_clo b (b + 1) (b + 2) c h x A X cA n cX nx ls xs i p (partsK K (p : Nat)) w' hl ln hn hX lx (by have := hh; rw [hK] at this ⊢; exact if_pos this) p1 (fun t ht => by have := p2 t ht; omega) F4.1 F4.2.1 F4.2.2.1
  · refine ⟨3, 69, _, by omega, by rw [k]; rfl, fun j hj d hd => ?_, by intro args w; go_simp, prod (by omega) (by omega)⟩
    have : j = 0 ∨ j = 1 ∨ j = 2 := by omega
    rcases this with rfl | rfl | rfl
    · have hd := (Option.some.inj hd).symm
      rw [hd, k]; rfl
    · have hd := (Option.some.inj hd).symm
      rw [hd, k]; rfl
    · have hd := (Option.some.inj hd).symm
      rw [hd, k]; rfl

end Go.Proofs.Ytklgjhldebdegaa

namespace Go.Proofs.Ytklgjhldebdegaa
open Go.RowKit

/-- A row of numbers that is being filled. -/
def UB (w : World) (g : Nat) (us : List UInt64) (k : Nat) : Prop :=
  ∃ cs : Array Value, w.heap[g]? = some (.cells cs 27 (0, 0)) ∧ cs.size = us.length ∧ (∀ j, j < us.length → ∃ v, cs[j]? = some (.int .u64 v)) ∧ ∀ j u, j < k → us[j]? = some u → cs[j]? = some (.int .u64 (uz u))
theorem UB.start (w : World) (us : List UInt64) : UB (w.alloc (.cells (madeCells #[.int .u64 0] us.length) 27)) w.heap.size us 0 := by
  refine ⟨_, heap_alloc_new w _, size_madeCells _ _, fun j hj => ⟨0, ?_⟩, fun j u hj => absurd hj (by omega)⟩
  simp [madeCells, hj, Nat.mod_one]
theorem UB.lt {w : World} {g k : Nat} {us : List UInt64} (h : UB w g us k) : g < w.heap.size := by
  obtain ⟨cs, h1, _⟩ := h
  exact (Array.getElem?_eq_some_iff.1 h1).1
theorem UB.below {w w' : World} {g k : Nat} {us : List UInt64} (h : UB w g us k) (hb : Below w.heap.size w w') : UB w' g us k := by
  have hl := h.lt
  obtain ⟨cs, h1, h2⟩ := h
  exact ⟨cs, (hb.block g hl).trans h1, h2⟩
theorem UB.facts {w : World} {g k : Nat} {us : List UInt64} (h : UB w g us k) (hk : k < us.length) :
    (∃ v, w.cell? ⟨g, k, none⟩ = some (.int .u64 v)) ∧ w.frozen? ⟨g, k, none⟩ = false := by
  obtain ⟨cs, h1, h2, h3, _⟩ := h
  refine ⟨?_, Lib.frozen_of_heap h1 _⟩
  rw [Lib.cell_of_heap h1]; exact h3 _ hk
theorem UB.step {w : World} {g k : Nat} {us : List UInt64} {u : UInt64} (h : UB w g us k) (hk : us[k]? = some u) : UB (w.setCell ⟨g, k, none⟩ (.int .u64 (uz u))) g us (k + 1) := by
  have hl := (List.getElem?_eq_some_iff.1 hk).1
  obtain ⟨cs, h1, h2, h3, h4⟩ := h
  refine ⟨_, Lib.heap_setCell_same h1 _, by simp [h2], fun j hj => ?_, fun j v hj hv => ?_⟩
  · by_cases e : j = k
    · subst e; exact ⟨_, by rw [Array.getElem?_setIfInBounds_self_of_lt (by omega)]⟩
    · obtain ⟨v, hv⟩ := h3 j hj
      exact ⟨v, by rw [Array.getElem?_setIfInBounds_ne (by omega)]; exact hv⟩
  · by_cases e : j = k
    · subst e
      rw [hk] at hv
      rw [Array.getElem?_setIfInBounds_self_of_lt (by omega), Option.some.inj hv]
    · rw [Array.getElem?_setIfInBounds_ne (by omega)]; exact h4 j v (by omega) hv
theorem UB.done {w : World} {g : Nat} {us : List UInt64} (h : UB w g us us.length) : Rg ucells w (some ⟨g, 0, none⟩) us := fun _ => by
  have hl := h.lt
  obtain ⟨cs, h1, h2, h3, h4⟩ := h
  refine ⟨g, 0, rfl, hl, fun j v hv => ?_⟩
  rw [Nat.zero_add, Lib.cell_of_heap h1]
  have hj : j < us.length := by
    have := (List.getElem?_eq_some_iff.1 hv).1
    rwa [flat_len ucells_len, Nat.mul_one] at this
  have g1 := flat_get ucells_len us j 0 _ (List.getElem?_eq_getElem hj) (by omega)
  rw [Nat.mul_one, Nat.add_zero, hv] at g1
  rw [g1, h4 j _ hj (List.getElem?_eq_getElem hj)]; rfl

set_option maxHeartbeats 4000000 in
set_option maxRecDepth 100000 in
theorem through_any (c h x : Int) (A X W : Option Addr) (cA n cX nx cW nw : Nat) (ls : List Ly) (xs ws : List UInt64) (i many : Nat) (K : Kn) (w : World)
    (hx : Rl w A ls) (ln : n = ls.length) (hn : n ≤ 1000) (hX : Rg ucells w X xs) (lx : nx = xs.length) (hW : Rg ucells w W ws) (lw : nw = ws.length) (hE : errN ⟨c, h, x, ls⟩ = 0) (hi : i < n) (hK : K = atN ⟨c, h, x, ls⟩ (i : Nat)) (hxn : (nx : Int) = K.i.n) (hwn : (nw : Int) = totW (knN ⟨c, h, x, ls⟩)) (hm : K.u.n = (many : Int)) :
    Calls Try.prog 47 #[.agg #[.int .i64 c, .int .i64 h, .int .i64 x, .slice A n cA], .int .i64 (i : Int), .int .i64 (many : Int), .slice X nx cX, .slice W nw cW] w (RowTo ucells (layK K xs ws) w) := by
  have ub := size_bd K.u
  have hm1 : many ≤ 128 := by omega
  have hl := get_ly (show i < ls.length by omega)
  have hlk : (ls.getD i Ly.z).k = K.l.k := by rw [hK, at_some hE hl]
  obtain ⟨us, hus⟩ : ∃ us, us = layK K xs ws := ⟨_, rfl⟩
  have hul : many = us.length := by rw [hus, lay_len]; omega
  have hug : ∀ p : Nat, p < many → us[p]? = some (numK K xs ws (p : Nat)) := fun p hp => by rw [hus]; exact lay_get (by omega)
  obtain ⟨t, F, caps, t4, hsel, hne, hF, hdo⟩ := sel (w.heap.size + 2) c h x A X W cA n cX nx cW nw ls xs ws i K ln hn lx lw hE hi hK hxn hwn
  obtain ⟨i0, hi0, hz0, hz1, hz2⟩ := info_parts Try.info27
  have hmk : ∀ w : World, (Instr.makeSlice 28 (.int .i64 (many : Int)) (.int .i64 (many : Int))).run Try.prog w = .ok (.slice (some ⟨w.heap.size, 0, none⟩) many many) (w.alloc (.cells (madeCells #[.int .u64 0] many) 27)) := fun w => by
    have := run_make (P := Try.prog) w 28 27 i0 _ Try.underlying28 hi0 hz0 .i64 .i64 (many : Int) (many : Int) (by omega) (Int.le_refl _) (by rw [hz2]; omega) (by omega)
    rw [hz1, Nat.mul_one] at this
    exact this
  have hmf : ∀ (fn : Fn) (first cap : Array Value) (w : World), (Instr.makeFunc fn first cap).run Try.prog w = .ok (.func fn first cap) w := fun _ _ _ _ => rfl
  rw [← hus]
  have HX := Lib.hid hx; have HXR := Lib.hid hX; have HWR := Lib.hid hW; have HL := Lib.hid hl; have HUL := Lib.hid hul; have HUG := Lib.hid hug
  have SEL := Lib.hid hsel; have NE := Lib.hid hne; have DO := Lib.hid hdo; have HLK := Lib.hid hlk; have HI := Lib.hid hi; have HM := Lib.hid hm
  have NI := Lib.hid ((NB.new w c h x (.slice A n cA)).alloc (.cells #[.int .i64 (i : Int)] 3))
  have CI : Hid (CB ((w.alloc (.cells #[.int .i64 c, .int .i64 h, .int .i64 x, .slice A n cA] 26)).alloc (.cells #[.int .i64 (i : Int)] 3)) (w.heap.size + 1) 3 (.int .i64 (i : Int))) := by
    have := cb_new (w.alloc (.cells #[.int .i64 c, .int .i64 h, .int .i64 x, .slice A n cA] 26)) 3 (.int .i64 (i : Int))
    rwa [show (w.alloc (.cells #[.int .i64 c, .int .i64 h, .int .i64 x, .slice A n cA] 26)).heap.size = w.heap.size + 1 by simp] at this
  have B0 : Hid (Below w.heap.size w ((w.alloc (.cells #[.int .i64 c, .int .i64 h, .int .i64 x, .slice A n cA] 26)).alloc (.cells #[.int .i64 (i : Int)] 3))) := below_two w _ _
  have sz : ((w.alloc (.cells #[.int .i64 c, .int .i64 h, .int .i64 x, .slice A n cA] 26)).alloc (.cells #[.int .i64 (i : Int)] 3)).heap.size = w.heap.size + 2 := by simp
  have SZ := Lib.hid sz
  clear hx ln hn hX lx hW lw hE hi hK hxn hwn hm hus hul hug hsel hne hdo hlk hl ub sz hi0 hz0 hz1 hz2
  go_enter Try.func47, Try.ntmps47
  go_wp2_with fail
  refine (doings_any c h x A cA n (i : Int) X W cX nx cW nw _).mono ?_
  rintro e w1 ⟨g, rfl, hD, hF4, hb1⟩
  rw [SZ.out] at hD hF4
  have B1 := Lib.hid (chain B0.out hb1)
  have N1 := Lib.hid (NI.out.below hb1)
  have C1 := Lib.hid (CI.out.below hb1)
  have D1 := Lib.hid hD; have F1 := Lib.hid hF4
  clear hD hF4 hb1 NI CI B0
  go_wp2_with fail
  refine (index_any w.heap.size (w.heap.size + 1) c h x A cA n ls i _ g 4 t _ _ (HX.out.below B1.out) HL.out HI.out N1.out C1.out D1.out rfl (by omega) t4 (by rw [HLK.out]; exact NE.out) (fun d hd => by rw [SEL.out] at hd; rw [← Option.some.inj hd, HLK.out]; simp)).mono ?_
  rintro e w2 ⟨rfl, hb2⟩
  have B2 := Lib.hid (chain B1.out hb2)
  have D2 := Lib.hid (D1.out.below hb2); have F2 := Lib.hid (F1.out.below hb2)
  clear hb2 B1 N1 C1 D1 F1
  go_wp2_with fail
  obtain ⟨q, hq⟩ : ∃ q, q = w2.heap.size := ⟨_, rfl⟩
  obtain ⟨V, hV⟩ : ∃ V, V = w2.alloc (.cells (madeCells #[.int .u64 0] many) 27) := ⟨_, rfl⟩
  have U0 : Hid (UB V q us 0) := by rw [hV, hq, HUL.out]; exact UB.start w2 us
  have B3 : Hid (Below w2.heap.size w2 V) := by rw [hV]; exact (Below.refl _ w2).alloc (Nat.le_refl _) _
  have qw : Hid (w2.heap.size ≤ q) := by rw [hq]; exact Nat.le_refl _
  rw [← hV, ← hq]
  clear hV hq
  go_loopg [14, 27] many (fun gh _ s27 wx => ∃ k : Nat, k ≤ many ∧ Hid (gh = many - k) ∧ s27 = .int .i64 (k : Int) ∧ Hid (UB wx q us k) ∧ Hid (Below w2.heap.size w2 wx))
  case atStart => exact ⟨0, by omega, by show _ = _; omega, rfl, U0, B3⟩
  case round =>
    obtain ⟨k, hk, HG, rfl, UK, BK⟩ := hrel
    by_cases km : k < many
    · have ki : (k : Int) < (many : Int) := by omega
      have ti : (t : Int) < (4 : Int) := by omega
      obtain ⟨b1, o1, e1, l1, q1⟩ := D2.out (by show 0 < 4; omega)
      injection e1 with e1
      injection e1 with e2 e3 e4
      subst e2 e3
      have y1 := (d_cells q1 SEL.out).2
      rw [Nat.zero_add] at y1
      have z1 := (BK.out.cell (p := ⟨g, t * 2 + 1, none⟩) l1).trans y1
      have BW := Lib.hid (chain B2.out BK.out)
      clear y1 q1 e4
      go_wp2_with fail
      refine (DO.out k _ (by rw [HM.out]; exact ki) (F2.out.below BK.out) (HX.out.below BW.out) (HXR.out.below BW.out) (HWR.out.below BW.out)).mono ?_
      rintro e w3 ⟨rfl, hb3⟩
      have U3 := Lib.hid (UK.out.below hb3)
      have B4 := Lib.hid (chain BK.out hb3)
      obtain ⟨⟨v, yv⟩, fz⟩ := U3.out.facts (by rw [← HUL.out]; exact km)
      obtain ⟨u, hu⟩ : ∃ u, u = numK K xs ws (k : Nat) := ⟨_, rfl⟩
      rw [← hu]
      have HU := Lib.hid (HUG.out k km)
      rw [← hu] at HU
      clear hb3 hu
      go_wp2_with fail
      go_roundg (many - (k + 1))
      case measure => have := HG.out; omega
      case rel => exact ⟨k + 1, by omega, rfl, by go_num, U3.out.step HU.out, B4.out.setCell (p := ⟨q, k, none⟩) qw.out _⟩
    · obtain rfl : k = many := by omega
      have UD : Hid (UB wr q us us.length) := by show UB _ _ _ _; rw [← HUL.out]; exact UK.out
      go_wp2_with fail
      go_ret
      exact ⟨some ⟨q, 0, none⟩, k, k, rfl, HUL.out, UD.out.done, chain B2.out BK.out, Nat.le_refl _, by unfold maxLen; omega⟩

end Go.Proofs.Ytklgjhldebdegaa

namespace Go.Proofs.Ytklgjhldebdegaa
open Go.RowKit

/-- A row of numbers and a Boolean that are handed out. -/
def PairTo (us : List UInt64) (r : Bool) (w : World) (e : Ending) (w' : World) : Prop :=
  ∃ (A : Option Addr) (k n : Nat), e = .returned (.tuple #[.slice A n k, .bool r]) ∧ n = us.length ∧ Rg ucells w' A us ∧ Below w.heap.size w w' ∧ n ≤ k ∧ k ≤ maxLen
def fitB (N : Nt) (m : Nat) : Bool := decide (errN N = 0 ∧ (m : Int) = totW (knN N))
def FitTo (N : Nt) (b : Bool) (w : World) (e : Ending) (w' : World) : Prop :=
  ∃ (A : Option Addr) (k n : Nat), e = .returned (.tuple #[.slice A n k, .bool b]) ∧ n = (shN N).length ∧ Rs w' A (shN N) ∧ Below w.heap.size w w'

set_option maxHeartbeats 1000000 in
theorem psize (S : Sh) (hr : S.r = true) (w : World) : Calls Try.prog 46 #[.agg #[.int .i64 S.c, .int .i64 S.h, .int .i64 S.x]] w fun e w' => e = .returned (.int .i64 S.n) ∧ Below w.heap.size w w' := by
  obtain ⟨r1, r2, r3, r4, r5, r6, r7⟩ := right_bd hr
  have hn := Sh.n_eq hr
  obtain ⟨s, hs⟩ : ∃ s, s = S.n := ⟨_, rfl⟩
  obtain ⟨m, hm⟩ : ∃ m, m = S.c * S.h := ⟨_, rfl⟩
  have b1 := mul_bd (show 0 ≤ S.c by omega) r2 (show 0 ≤ S.h by omega) r4
  have b2 := size_bd S
  rw [← hm] at b1
  rw [← hs] at b2
  rw [← hs, ← hm] at hn
  rw [← hs]
  have v1 : IntKind.i64.wrap (S.c * S.h) = m := by rw [← hm, IntWalk.i64_in _ (by omega)]
  have v2 : wrap64 (S.c * S.h) = m := by rw [← hm, IntWalk.wrap64_in _ (by omega)]
  have v3 : IntKind.i64.wrap (m * S.x) = s := by rw [← hn, IntWalk.i64_in _ (by omega)]
  have v4 : wrap64 (m * S.x) = s := by rw [← hn, IntWalk.wrap64_in _ (by omega)]
  clear hs hm hn b1 b2 r1 r2 r3 r4 r5 r6 r7 hr
  go_enter Try.func46, Try.ntmps46
  go_wp2_with fail
  go_ret
  exact ⟨rfl, chain_alloc (Below.refl _ w) _⟩

set_option maxHeartbeats 1000000 in
set_option maxRecDepth 100000 in
theorem fit_any (c h x : Int) (A W : Option Addr) (cA n cW nw : Nat) (ls : List Ly) (b : Bool) (hb : fitB ⟨c, h, x, ls⟩ nw = b) (w : World) (hx : Rl w A ls) (ln : n = ls.length) (hn : n ≤ 1000) :
    Calls Try.prog 45 #[.agg #[.int .i64 c, .int .i64 h, .int .i64 x, .slice A n cA], .slice W nw cW] w (FitTo ⟨c, h, x, ls⟩ b w) := by
  have HX := Lib.hid hx; have LX := Lib.hid ln; have HB := Lib.hid hb
  obtain ⟨er, her⟩ : ∃ er, er = errN ⟨c, h, x, ls⟩ := ⟨_, rfl⟩
  obtain ⟨tw, htw⟩ : ∃ tw, tw = totW (knN ⟨c, h, x, ls⟩) := ⟨_, rfl⟩
  have HER := Lib.hid her; have HTW := Lib.hid htw
  clear hx ln hb her htw
  go_enter Try.func45, Try.ntmps45
  go_wp2_with fail
  refine (shapes_any c h x A cA n ls _ (HX.out.below ((Below.refl _ w).alloc (Nat.le_refl _) _)) LX.out hn).mono ?_
  rintro e w1 ⟨A1, k1, n1, rfl, hn1, hR, hb, hd1, hd2⟩
  have B1 := Lib.hid (chain ((Below.refl w.heap.size w).alloc (Nat.le_refl _) _) hb)
  have N1 := Lib.hid ((NB.new w c h x (.slice A n cA)).below hb)
  obtain ⟨c0, c1, c2, c3⟩ := N1.out.cells
  have HR := Lib.hid hR; have HN := Lib.hid hn1
  clear hb hd1 hd2 hR hn1
  rw [← HER.out]
  go_wp2_with fail
  refine (all_any c h x A cA n ls _ (HX.out.below B1.out) LX.out hn).mono ?_
  rintro e w2 ⟨rfl, hb⟩
  rw [← HTW.out]
  have B2 := Lib.hid (chain B1.out hb)
  have R2 := Lib.hid (HR.out.below hb)
  clear hb c0 c1 c2 c3
  by_cases h0 : ¬ er = 0
  · have b0 : (er == 0) = false := by simpa using h0
    obtain rfl : b = false := by rw [← HB.out]; exact decide_eq_false (by rw [← HER.out]; exact fun q => h0 q.1)
    clear h0
    go_wp2_with fail
    go_ret2
    exact ⟨A1, k1, n1, rfl, HN.out, R2.out, B2.out⟩
  have h0 : er = 0 := by omega
  have b0 : (er == 0) = true := by rw [h0]; rfl
  by_cases h1 : (nw : Int) = tw
  · have b1 : ((nw : Int) == tw) = true := by rw [h1]; simp
    obtain rfl : b = true := by rw [← HB.out]; exact decide_eq_true (by rw [← HER.out, ← HTW.out]; exact ⟨h0, h1⟩)
    clear h0 h1
    go_wp2_with fail
    go_ret2
    exact ⟨A1, k1, n1, rfl, HN.out, R2.out, B2.out⟩
  · have b1 : ((nw : Int) == tw) = false := by simpa using h1
    obtain rfl : b = false := by rw [← HB.out]; exact decide_eq_false (by rw [← HTW.out]; exact fun q => h1 q.2)
    clear h0 h1
    go_wp2_with fail
    go_ret2
    exact ⟨A1, k1, n1, rfl, HN.out, R2.out, B2.out⟩

set_option maxHeartbeats 4000000 in
set_option maxRecDepth 100000 in
theorem layer_any (c h x : Int) (A X W : Option Addr) (cA n cX nx cW nw : Nat) (ls : List Ly) (xs ws us : List UInt64) (i : Int) (r : Bool) (w : World) (hx : Rl w A ls) (ln : n = ls.length) (hn : n ≤ 1000) (hX : Rg ucells w X xs) (lx : nx = xs.length) (hW : Rg ucells w W ws) (lw : nw = ws.length) (hus : layN ⟨c, h, x, ls⟩ i xs ws = us) (hr : okL ⟨c, h, x, ls⟩ i xs ws = r) :
    Calls Try.prog 31 #[.agg #[.int .i64 c, .int .i64 h, .int .i64 x, .slice A n cA], .int .i64 i, .slice X nx cX, .slice W nw cW] w (PairTo us r w) := by
  have HX := Lib.hid hx; have LX := Lib.hid ln; have HXR := Lib.hid hX; have LXX := Lib.hid lx; have HWR := Lib.hid hW; have LWW := Lib.hid lw
  have NO : Hid (okL ⟨c, h, x, ls⟩ i xs ws = false → r = false ∧ us = []) := fun e => ⟨hr.symm.trans e, by rw [← hus]; exact lay_no e⟩
  have HUS := Lib.hid hus; have HR := Lib.hid hr
  obtain ⟨b, hb⟩ : ∃ b, fitB ⟨c, h, x, ls⟩ nw = b := ⟨_, rfl⟩
  have HB := Lib.hid hb
  clear hx ln hX lx hW lw hus hr hb
  go_enter Try.func31, Try.ntmps31
  go_wp2_with fail
  refine (fit_any c h x A W cA n cW nw ls b HB.out _ (HX.out.below ((Below.refl _ w).alloc (Nat.le_refl _) _)) LX.out hn).mono ?_
  rintro e w1 ⟨A1, k1, n1, rfl, hn1, hR, hb⟩
  have B1 := Lib.hid (chain ((Below.refl w.heap.size w).alloc (Nat.le_refl _) _) hb)
  have N1 := Lib.hid ((NB.new w c h x (.slice A n cA)).below hb)
  obtain ⟨a0, a1, a2, a3⟩ := N1.out.cells
  have lN := N1.out.lt
  clear hb
  cases b
  · obtain ⟨rfl, rfl⟩ := NO.out (decide_eq_false fun q => of_decide_eq_false HB.out ⟨q.1.1, by rw [LWW.out]; exact q.2.2⟩)
    clear hn1 hR
    go_wp2_with fail
    go_ret2
    exact ⟨none, 0, 0, rfl, rfl, Rg.nil _ _ _, B1.out, Nat.le_refl _, Nat.zero_le _⟩
  obtain ⟨he, hw⟩ := of_decide_eq_true HB.out
  by_cases i0 : i < 0
  · have d0 : decide (i < 0) = true := decide_eq_true i0
    obtain ⟨rfl, rfl⟩ := NO.out (decide_eq_false fun q => by omega)
    clear hn1 hR he hw
    go_wp2_with fail
    go_ret2
    exact ⟨none, 0, 0, rfl, rfl, Rg.nil _ _ _, B1.out, Nat.le_refl _, Nat.zero_le _⟩
  have d0 : decide (i < 0) = false := decide_eq_false i0
  by_cases i1 : (n : Int) ≤ i
  · have d1 : decide ((n : Int) ≤ i) = true := decide_eq_true i1
    obtain ⟨rfl, rfl⟩ := NO.out (decide_eq_false fun q => by have q2 : i < (ls.length : Int) := q.1.2.2; have := LX.out; omega)
    clear hn1 hR he hw
    go_wp2_with fail
    go_ret2
    exact ⟨none, 0, 0, rfl, rfl, Rg.nil _ _ _, B1.out, Nat.le_refl _, Nat.zero_le _⟩
  have d1 : decide ((n : Int) ≤ i) = false := decide_eq_false i1
  obtain ⟨j, rfl⟩ : ∃ j : Nat, i = j := ⟨i.toNat, by omega⟩
  have jn : j < n := by omega
  have d2 : decide (n ≤ j) = false := by simp; omega
  rw [shN_ok he] at hR hn1
  rw [sh_len, ← LX.out] at hn1
  obtain ⟨bS, oS, rfl, hlS, hcS⟩ := hR (by rw [sh_len]; omega)
  have hjl : j < ls.length := by rw [← LX.out]; exact jn
  have hl := get_ly hjl
  obtain ⟨K, hK⟩ : ∃ K, K = atN ⟨c, h, x, ls⟩ (j : Int) := ⟨_, rfl⟩
  have hKe := hK.trans (at_some he hl)
  have g1 := sh_get ls ⟨c, h, x⟩ j (by omega)
  rw [show endS ⟨c, h, x⟩ (ls.take j) = K.i by rw [hKe]] at g1
  have g2 := sh_get ls ⟨c, h, x⟩ (j + 1) (by omega)
  rw [show endS ⟨c, h, x⟩ (ls.take (j + 1)) = K.u by rw [hKe, run_end c h x ls hl]] at g2
  obtain ⟨y0, y1, y2⟩ := sh_at hcS g1
  obtain ⟨a4, a5, a6⟩ := sh_at hcS g2
  obtain ⟨m, hm⟩ : ∃ m, m = j + 1 := ⟨_, rfl⟩
  rw [← hm] at a4 a5 a6
  have GD : Good K := by rw [hK]; exact good_at (isB_yes ⟨he, by omega, by show (j : Int) < (ls.length : Int); omega⟩)
  have ja : (0 : Int) ≤ (j : Int) := by omega
  have jb : (j : Int) < (n1 : Int) := by omega
  have ma : (0 : Int) ≤ (m : Int) := by omega
  have mb : (m : Int) < (n1 : Int) := by omega
  have jb' : j < n1 := by omega
  have mb' : m < n1 := by omega
  have v1 : IntKind.i64.wrap ((j : Int) + 1) = (m : Int) := next_i64 hm (Nat.lt_succ_self j) (by omega)
  have v2 : wrap64 ((j : Int) + 1) = (m : Int) := next_wrap hm (Nat.lt_succ_self j) (by omega)
  have PI := Lib.hid (psize K.i GD.2.1)
  have PS := Lib.hid (psize K.u GD.ur)
  have HK := Lib.hid hK; have HE := Lib.hid he; have HWN := Lib.hid hw
  obtain ⟨kn, hkn⟩ : ∃ kn, kn = K.i.n := ⟨_, rfl⟩
  have HKN := Lib.hid hkn
  have HGD := Lib.hid GD
  have un := size_bd K.u
  obtain ⟨ku, hku⟩ : ∃ ku : Nat, K.u.n = ku := ⟨K.u.n.toNat, by omega⟩
  have HKU := Lib.hid hku
  rw [← hkn] at PI
  rw [hku] at PS
  clear hK hKe g1 g2 hcS hl he hn1 hm hw hkn GD un hku
  go_wp2_with fail
  refine (PI.out _).mono ?_
  rintro e w4 ⟨rfl, hb4⟩
  have B4 := Lib.hid (chain B1.out hb4)
  have lN := Nat.lt_of_lt_of_le lN hb4.size
  have a0 := (hb4.cell (p := ⟨w.heap.size, 0, none⟩) N1.out.lt).trans a0
  have a1 := (hb4.cell (p := ⟨w.heap.size, 1, none⟩) N1.out.lt).trans a1
  have a2 := (hb4.cell (p := ⟨w.heap.size, 2, none⟩) N1.out.lt).trans a2
  have a3 := (hb4.cell (p := ⟨w.heap.size, 3, none⟩) N1.out.lt).trans a3
  have a4 := (hb4.cell (p := ⟨bS, oS + m * 3, none⟩) hlS).trans a4
  have a5 := (hb4.cell (p := ⟨bS, oS + m * 3 + 1, none⟩) hlS).trans a5
  have a6 := (hb4.cell (p := ⟨bS, oS + m * 3 + 2, none⟩) hlS).trans a6
  have hlS := Nat.lt_of_lt_of_le hlS hb4.size
  clear hb4 y0 y1 y2
  by_cases hxn : ¬ (nx : Int) = kn
  · have b0 : ((nx : Int) != kn) = true := by simpa using hxn
    obtain ⟨rfl, rfl⟩ := NO.out (decide_eq_false fun q => hxn (by rw [LXX.out, HKN.out, HK.out]; exact q.2.1))
    clear hxn a0 a1 a2 a3 a4 a5 a6
    go_wp2_with fail
    go_ret2
    exact ⟨none, 0, 0, rfl, rfl, Rg.nil _ _ _, B4.out, Nat.le_refl _, Nat.zero_le _⟩
  have hxn : (nx : Int) = kn := Decidable.not_not.1 hxn
  have b0 : ((nx : Int) != kn) = false := by rw [hxn]; simp
  have hok : okL ⟨c, h, x, ls⟩ (j : Int) xs ws = true := decide_eq_true ⟨⟨HE.out, by omega, by show (j : Int) < (ls.length : Int); rw [← LX.out]; omega⟩, by rw [← LXX.out, ← HK.out, ← HKN.out]; exact hxn, by rw [← LWW.out]; exact HWN.out⟩
  obtain rfl : r = true := HR.out.symm.trans hok
  obtain rfl : us = layK K xs ws := by rw [← HUS.out, HK.out]; exact lay_yes hok
  have TH : Hid (∀ w', Rl w' A ls → Rg ucells w' X xs → Rg ucells w' W ws → Calls Try.prog 47 #[.agg #[.int .i64 c, .int .i64 h, .int .i64 x, .slice A n cA], .int .i64 (j : Int), .int .i64 (ku : Int), .slice X nx cX, .slice W nw cW] w' (RowTo ucells (layK K xs ws) w')) := fun w' z1 z2 z3 =>
    through_any c h x A X W cA n cX nx cW nw ls xs ws j ku K w' z1 LX.out hn z2 LXX.out z3 LWW.out HE.out jn HK.out (by rw [hxn, HKN.out]) HWN.out HKU.out
  have HC0 : Hid (Below w4.heap.size w4 w4.drew) := below_drew w4
  clear hxn hok
  go_wp2_with fail
  have tok1 : True := trivial
  go_region_held3 (fun w' => w'.cell? ⟨w.heap.size, 0, none⟩ = some (.int .i64 c) ∧ w'.cell? ⟨w.heap.size, 1, none⟩ = some (.int .i64 h) ∧ w'.cell? ⟨w.heap.size, 2, none⟩ = some (.int .i64 x) ∧ w'.cell? ⟨w.heap.size, 3, none⟩ = some (.slice A n cA) ∧ w'.cell? ⟨bS, oS + m * 3, none⟩ = some (.int .i64 K.u.c) ∧ w'.cell? ⟨bS, oS + m * 3 + 1, none⟩ = some (.int .i64 K.u.h) ∧ w'.cell? ⟨bS, oS + m * 3 + 2, none⟩ = some (.int .i64 K.u.x))
    (first | exact ⟨q0, q1, q2, q3, q4, q5, q6⟩ | go_keep)
    (first
      | ((have _t := tok1; clear tok1; go_at_call 46; (with_reducible refine (PS.out _).mono ?_); rintro e w2 ⟨rfl, hb2⟩
          have HC1 := Lib.hid (HC0.out.trans (hb2.mono HC0.out.size))
          have q0 := (HC1.out.cell (p := ⟨w.heap.size, 0, none⟩) lN).trans a0
          have q1 := (HC1.out.cell (p := ⟨w.heap.size, 1, none⟩) lN).trans a1
          have q2 := (HC1.out.cell (p := ⟨w.heap.size, 2, none⟩) lN).trans a2
          have q3 := (HC1.out.cell (p := ⟨w.heap.size, 3, none⟩) lN).trans a3
          have q4 := (HC1.out.cell (p := ⟨bS, oS + m * 3, none⟩) hlS).trans a4
          have q5 := (HC1.out.cell (p := ⟨bS, oS + m * 3 + 1, none⟩) hlS).trans a5
          have q6 := (HC1.out.cell (p := ⟨bS, oS + m * 3 + 2, none⟩) hlS).trans a6
          have tok2 : True := trivial
          clear hb2))
      | ((have _t := tok2; clear tok2; go_at_call 47; (with_reducible refine (TH.out _ (HX.out.below (chain B4.out HC1.out)) (HXR.out.below (chain B4.out HC1.out)) (HWR.out.below (chain B4.out HC1.out))).mono ?_); rintro e w3 ⟨A3, k3, n3, rfl, h31, h32, hb3, h34, h35⟩
          have HC2 := Lib.hid (HC1.out.trans (hb3.mono HC1.out.size))
          have H31 := Lib.hid h31; have H32 := Lib.hid h32; have H34 := Lib.hid h34; have H35 := Lib.hid h35
          clear q0 q1 q2 q3 q4 q5 q6
          have q0 := (HC2.out.cell (p := ⟨w.heap.size, 0, none⟩) lN).trans a0
          have q1 := (HC2.out.cell (p := ⟨w.heap.size, 1, none⟩) lN).trans a1
          have q2 := (HC2.out.cell (p := ⟨w.heap.size, 2, none⟩) lN).trans a2
          have q3 := (HC2.out.cell (p := ⟨w.heap.size, 3, none⟩) lN).trans a3
          have q4 := (HC2.out.cell (p := ⟨bS, oS + m * 3, none⟩) hlS).trans a4
          have q5 := (HC2.out.cell (p := ⟨bS, oS + m * 3 + 1, none⟩) hlS).trans a5
          have q6 := (HC2.out.cell (p := ⟨bS, oS + m * 3 + 2, none⟩) hlS).trans a6
          clear hb3 h31 h32 h34 h35))
      | fail)
  go_wp2_with fail
  go_ret2
  exact ⟨A3, k3, n3, rfl, H31.out, H32.out, chain B4.out HC2.out, H34.out, H35.out⟩

end Go.Proofs.Ytklgjhldebdegaa

namespace Go.Proofs.Ytklgjhldebdegaa
open Go.RowKit

theorem u_news {w : World} {b off : Nat} {us : List UInt64} (h : ∀ j u, (us.flatMap ucells)[j]? = some u → w.cell? ⟨b, off + j, none⟩ = some u) : ∀ j u, (us.flatMap ucells)[j]? = some u → w.cell? ((⟨b, off, none⟩ : Addr).add j) = some u := fun j u hu => by
  have ha : (⟨b, off, none⟩ : Addr).add j = ⟨b, off + j, none⟩ := by unfold Addr.add; split <;> simp_all
  rw [ha]; exact h j u hu
theorem u_ones (us : List UInt64) : ∀ u ∈ us.flatMap ucells, u.oneCell' = true := fun u hu => by
  obtain ⟨x, _, hx⟩ := List.mem_flatMap.1 hu
  exact ucells_one x u hx
theorem slice_nil (b o n c : Nat) (w : World) : (binOp .eql 28 (.slice (some ⟨b, o, none⟩) n c) (.slice none 0 0)).run Try.prog w = .ok (.bool false) w := by kernel_rfl
theorem own_voidU {w : World} {B g : Nat} (h : w.heap[g]? = some (.cells #[] 27 (0, 0))) (hB : B ≤ g) : w.ownsRow B 27 1 (.slice (some ⟨g, 0, none⟩) 0 0) 0 [] :=
  ⟨by simp, .inr ⟨g, 0, #[], rfl, hB, h, Nat.le_refl _, Nat.zero_le _, by simp, by simp⟩⟩

set_option maxHeartbeats 1000000 in
set_option maxRecDepth 100000 in
theorem clone_any (X : Option Addr) (cX nx : Nat) (xs : List UInt64) (w : World) (hX : Rg ucells w X xs) (lx : nx = xs.length) (h0 : 0 < nx) (h1 : nx ≤ 100000) :
    Calls Try.prog 21 #[.slice X nx cX] w (RowTo ucells xs w) := by
  obtain ⟨i0, hi, hz0, hz1, hz2⟩ := info_parts Try.info27
  obtain ⟨b, o, rfl, lb, q⟩ := hX (by omega)
  have hnil := slice_nil b o nx cX
  have Q := Lib.hid q; have LX := Lib.hid lx
  clear hX q lx
  go_enter Try.func21, Try.ntmps21
  go_wp2_with (at_builtin; refine wpList_append_own_at _ rfl _ _ 28 rfl w.heap.size 27 i0 (.int .u64 0) 1 8 Try.underlying28 hi hz0 hz1 hz2 rfl (by decide) _ 0 [] rfl (own_voidU (heap_alloc_new w _) (Nat.le_refl _)) ⟨b, o, none⟩ nx cX (xs.flatMap ucells) rfl ?c0 ?c1 (u_ones xs) ?c3 ?c4 ?c5 ?_)
  case c0 => rw [flat_len ucells_len, LX.out]
  case c1 => exact u_news fun j u hu => (((Below.refl _ w).alloc (Nat.le_refl _) _).cell (p := ⟨b, o + j, none⟩) lb).trans (Q.out j u hu)
  case c3 => unfold maxLen; omega
  case c4 => omega
  case c5 => first | omega | simp
  intro v' w4 hown2 hgrow hd1 hd2
  obtain ⟨A', c', rfl, e1, e2, e3, e4⟩ := own_cap ucells_len (by decide) hown2
  have R := Lib.hid e2; have C3 := Lib.hid e3; have C4 := Lib.hid e4
  have B4 : Hid (Below w.heap.size w w4) := ((Below.refl _ w).alloc (Nat.le_refl _) _).grown hgrow (by simp) (fun q hq => by simp [Value.ownBlock] at hq; omega)
  clear hown2 hgrow hd1 hd2 e1 e2 e3 e4
  go_wp2_with fail
  go_ret
  exact ⟨A', c', nx, rfl, LX.out, R.out, B4.out, C3.out, C4.out⟩

end Go.Proofs.Ytklgjhldebdegaa

namespace Go.Proofs.Ytklgjhldebdegaa
open Go.RowKit
end Go.Proofs.Ytklgjhldebdegaa

namespace Go.Proofs.Ytklgjhldebdegaa
open Go.RowKit

/-- A slice's header. -/
structure Sl where
  a : Option Addr
  n : Nat
  c : Nat
def slcells (p : Sl) : List Value := [.slice p.a p.n p.c]
theorem slcells_len (p : Sl) : (slcells p).length = 1 := rfl
theorem sl_cell {w : World} {b off : Nat} {ps : List Sl} (h : ∀ j u, (ps.flatMap slcells)[j]? = some u → w.cell? ⟨b, off + j, none⟩ = some u) {k : Nat} {p : Sl} (hp : ps[k]? = some p) :
    w.cell? ⟨b, off + k, none⟩ = some (.slice p.a p.n p.c) := by
  have q := Rg.at slcells_len h hp
  have := q 0 _ rfl
  rw [Nat.mul_one, Nat.add_zero] at this
  exact this
def anyB (ps : List Sl) : Bool := ps.any fun p => decide (3000 < p.n)

/-! ### The fixed questions -/
def hl1 : List Ly := [⟨3, 0, 2, 0⟩]
def hx0 : List UInt64 := [1, 2, 3, 4]
def hw1 : List UInt64 := [1, 0, 0, 2, 3, 5]
theorem hq2 : fN ⟨1, 2, 2, hl1⟩ hx0 [] = [10] := by decide +kernel
end Go.Proofs.Ytklgjhldebdegaa

namespace Go.Proofs.Ytklgjhldebdegaa
open Go.RowKit

theorem old_at {w : World} {o o' : Obj} {k : Nat} (h : w.heap[k]? = some o) : (w.alloc o').heap[k]? = some o := (Lib.alloc_old w o' k (Array.getElem?_eq_some_iff.1 h).1).trans h
theorem rl_blk {w : World} {g : Nat} {fr : Nat × Nat} {cs : Array Value} {T : Nat} {ls : List Ly} (h : w.heap[g]? = some (.cells cs T fr)) (e : cs.toList = ls.flatMap lycells) : Rl w (some ⟨g, 0, none⟩) ls := rl_of_rg (rg_block h e)

end Go.Proofs.Ytklgjhldebdegaa

namespace Go.Proofs.Ytklgjhldebdegaa
open Go.RowKit
end Go.Proofs.Ytklgjhldebdegaa

namespace Go.Proofs.Ytklgjhldebdegaa
open Go.RowKit

/-- A shape that lies in memory. -/
def Box (w : World) (b : Nat) (c h x : Int) : Prop :=
  b < w.heap.size ∧ w.cell? ⟨b, 0, none⟩ = some (.int .i64 c) ∧ w.cell? ⟨b, 1, none⟩ = some (.int .i64 h) ∧ w.cell? ⟨b, 2, none⟩ = some (.int .i64 x)
theorem Box.below {w w' : World} {b : Nat} {c h x : Int} (p : Box w b c h x) (hb : Below w.heap.size w w') : Box w' b c h x :=
  ⟨Nat.lt_of_lt_of_le p.1 hb.size, (hb.cell (p := ⟨b, 0, none⟩) p.1).trans p.2.1, (hb.cell (p := ⟨b, 1, none⟩) p.1).trans p.2.2.1, (hb.cell (p := ⟨b, 2, none⟩) p.1).trans p.2.2.2⟩
theorem Box.alloc {w : World} {b : Nat} {c h x : Int} (p : Box w b c h x) (o : Obj) : Box (w.alloc o) b c h x :=
  p.below ((Below.refl _ _).alloc (Nat.le_refl _) _)
theorem Box.new (w : World) (c h x : Int) : Box (w.alloc (.cells #[.int .i64 c, .int .i64 h, .int .i64 x] 23)) w.heap.size c h x :=
  ⟨by simp, by go_simp, by go_simp, by go_simp⟩
end Go.Proofs.Ytklgjhldebdegaa

namespace Go.Proofs.Ytklgjhldebdegaa
open Go.RowKit
end Go.Proofs.Ytklgjhldebdegaa

namespace Go.Proofs.Ytklgjhldebdegaa
open Go.RowKit

theorem LB.new (w : World) (l : Ly) : LB (w.alloc (.cells #[.int .i64 l.k, .int .i64 l.o, .int .i64 l.s, .int .i64 l.t] 39)) w.heap.size l := heap_alloc_new w _
theorem SB.alloc {w : World} {b : Nat} {s : Sh} (H : SB w b s) (o : Obj) : SB (w.alloc o) b s := (Lib.alloc_old w o b H.lt).trans H

end Go.Proofs.Ytklgjhldebdegaa

namespace Go.Proofs.Ytklgjhldebdegaa
open Go.RowKit
end Go.Proofs.Ytklgjhldebdegaa
