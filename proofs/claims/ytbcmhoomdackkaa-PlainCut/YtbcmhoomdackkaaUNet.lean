/-
  What a layer, and a network, make of numbers: apart from any program. What a network makes of numbers, layer by layer, and cut into two: apart from any program.
-/
import Derived.Test.YtbcmhoomdackkaaTGood
namespace Go.Proofs.Ytbcmhoomdackkaa
open Go.RowKit

/-- The number that a cell bears. -/
def uz (u : UInt64) : Int := (u.toNat : Int)
theorem uz_inj {x y : UInt64} (h : uz x = uz y) : x = y := by
  unfold uz at h
  exact UInt64.toNat_inj.1 (by omega)
theorem uz_lo (x : UInt64) : 0 ≤ uz x := by unfold uz; omega
theorem uz_hi (x : UInt64) : uz x < 18446744073709551616 := by
  unfold uz; have := x.toNat_lt; omega
theorem uz_add (x y : UInt64) : IntKind.u64.wrap (uz x + uz y) = uz (x + y) := by
  rw [IntKind.wrap_u64]; unfold uz; rw [UInt64.toNat_add]; omega
theorem uz_mul (x y : UInt64) : IntKind.u64.wrap (uz x * uz y) = uz (x * y) := by
  rw [IntKind.wrap_u64]; unfold uz; rw [UInt64.toNat_mul]; omega
theorem uz_of {n : Int} (h0 : 0 ≤ n) (h1 : n < 18446744073709551616) : ∃ u : UInt64, n = uz u :=
  ⟨UInt64.ofNat n.toNat, by unfold uz; rw [UInt64.toNat_ofNat']; omega⟩
def ucells (u : UInt64) : List Value := [.int .u64 (uz u)]
theorem ucells_len (u : UInt64) : (ucells u).length = 1 := rfl
theorem ucells_one (x : UInt64) : ∀ u ∈ ucells x, u.oneCell' = true := fun u hu => by
  simp only [ucells, List.mem_cons, List.not_mem_nil, or_false] at hu
  subst hu; rfl

/-- The number at a place. -/
def ug (us : List UInt64) (j : Int) : UInt64 := us.getD j.toNat 0
theorem ug_get {us : List UInt64} {j : Nat} (h : j < us.length) : us[j]? = some (ug us (j : Int)) := by
  unfold ug; rw [List.getElem?_eq_getElem h]; simp [List.getD_eq_getElem?_getD, h]
theorem ug_at {w : World} {A : Option Addr} {us : List UInt64} (h : Rg ucells w A us) {j : Int} (j0 : 0 ≤ j) (j1 : j < (us.length : Int)) :
    ∃ b off, A = some ⟨b, off, none⟩ ∧ b < w.heap.size ∧ w.cell? ⟨b, off + j.toNat, none⟩ = some (.int .u64 (uz (ug us j))) := by
  obtain ⟨b, off, e, hlt, hc⟩ := h (by omega)
  refine ⟨b, off, e, hlt, ?_⟩
  have := Rg.at ucells_len hc (ug_get (us := us) (j := j.toNat) (by omega)) 0 _ rfl
  rw [Nat.mul_one, Nat.add_zero, show ((j.toNat : Nat) : Int) = j by omega] at this
  exact this

def sumU : List UInt64 → UInt64
  | [] => 0
  | u :: us => u + sumU us
theorem sumU_app : ∀ a b, sumU (a ++ b) = sumU a + sumU b
  | [], b => by simp [sumU]
  | u :: us, b => by simp only [List.cons_append, sumU, sumU_app us b, UInt64.add_assoc]
theorem sumU_snoc (a : List UInt64) (u : UInt64) : sumU (a ++ [u]) = sumU a + u := by rw [sumU_app]; simp [sumU]
theorem sum_add {α : Type} (f g : α → UInt64) : ∀ l : List α, sumU (l.map fun t => f t + g t) = sumU (l.map f) + sumU (l.map g)
  | [] => by simp [sumU]
  | x :: l => by simp only [List.map_cons, sumU, sum_add f g l]; grind
theorem sum_scale {α : Type} (k : UInt64) (f : α → UInt64) : ∀ l : List α, sumU (l.map fun t => k * f t) = k * sumU (l.map f)
  | [] => by simp [sumU]
  | x :: l => by simp only [List.map_cons, sumU, sum_scale k f l]; grind
theorem sum_none {α : Type} (f : α → UInt64) : ∀ l : List α, (∀ x ∈ l, f x = 0) → sumU (l.map f) = 0
  | [], _ => rfl
  | x :: l, h => by simp only [List.map_cons, sumU, h x (by simp), sum_none f l fun y hy => h y (by simp [hy])]; rfl

/-! ### Rows -/
def addU (a b : List UInt64) : List UInt64 := List.zipWith (· + ·) a b
def mulU (a b : List UInt64) : List UInt64 := List.zipWith (· * ·) a b
def scaleU (k : UInt64) (a : List UInt64) : List UInt64 := a.map fun u => k * u
def noughts (n : Nat) : List UInt64 := List.replicate n 0
theorem addU_map {α : Type} (f g : α → UInt64) : ∀ l : List α, addU (l.map f) (l.map g) = l.map fun p => f p + g p
  | [] => rfl
  | x :: l => by
    have := addU_map f g l
    unfold addU at this ⊢
    simp only [List.map_cons, List.zipWith_cons_cons, this]
theorem scaleU_map {α : Type} (k : UInt64) (f : α → UInt64) (l : List α) : scaleU k (l.map f) = l.map fun p => k * f p := by
  unfold scaleU; rw [List.map_map]; rfl
theorem addU_len {a b : List UInt64} (h : a.length = b.length) : (addU a b).length = a.length := by unfold addU; simp [h]
theorem scaleU_len (k : UInt64) (a : List UInt64) : (scaleU k a).length = a.length := by simp [scaleU]
theorem ug_add {a b : List UInt64} (h : a.length = b.length) (j : Int) : ug (addU a b) j = ug a j + ug b j := by
  unfold ug addU
  rw [List.getD_eq_getElem?_getD, List.getD_eq_getElem?_getD, List.getD_eq_getElem?_getD, List.getElem?_zipWith]
  by_cases hj : j.toNat < a.length
  · rw [List.getElem?_eq_getElem hj, List.getElem?_eq_getElem (by omega)]; rfl
  · rw [List.getElem?_eq_none (by omega), List.getElem?_eq_none (by omega)]; rfl
theorem ug_scale (k : UInt64) (a : List UInt64) (j : Int) : ug (scaleU k a) j = k * ug a j := by
  unfold ug scaleU
  rw [List.getD_eq_getElem?_getD, List.getD_eq_getElem?_getD, List.getElem?_map]
  cases a[j.toNat]? with
  | none => simp
  | some u => rfl
theorem ug_nought (n : Nat) (j : Int) : ug (noughts n) j = 0 := by
  unfold ug noughts
  rw [List.getD_eq_getElem?_getD, List.getElem?_replicate]
  split <;> rfl

/-! ### A layer -/
def termU (xs ws : List UInt64) (t : Tm) : UInt64 := ug xs t.x * ug ws t.w
def numK (K : Kn) (xs ws : List UInt64) (p : Int) : UInt64 :=
  if K.l.k = 2 then ug xs p * ug xs p
  else if K.l.k = 3 then sumU ((partsK K p).map (ug xs))
  else sumU ((termsK K p).map (termU xs ws))
def layK (K : Kn) (xs ws : List UInt64) : List UInt64 := (List.range K.u.n.toNat).map fun p => numK K xs ws (p : Nat)
theorem lay_len (K : Kn) (xs ws : List UInt64) : (layK K xs ws).length = K.u.n.toNat := by simp [layK]
theorem lay_get {K : Kn} {xs ws : List UInt64} {p : Nat} (h : p < K.u.n.toNat) : (layK K xs ws)[p]? = some (numK K xs ws (p : Nat)) := by
  simp [layK, h]
theorem num_add {K : Kn} (k2 : K.l.k ≠ 2) {xs ys ws : List UInt64} (h : xs.length = ys.length) (p : Int) : numK K (addU xs ys) ws p = numK K xs ws p + numK K ys ws p := by
  unfold numK
  rw [if_neg k2, if_neg k2, if_neg k2]
  by_cases k3 : K.l.k = 3
  · rw [if_pos k3, if_pos k3, if_pos k3, ← sum_add]
    exact congrArg (fun f => sumU (List.map f _)) (funext fun t => ug_add h t)
  · rw [if_neg k3, if_neg k3, if_neg k3, ← sum_add]
    exact congrArg (fun f => sumU (List.map f _)) (funext fun t => by unfold termU; rw [ug_add h]; grind)
theorem num_scale {K : Kn} (k2 : K.l.k ≠ 2) (k : UInt64) {xs ws : List UInt64} (p : Int) : numK K (scaleU k xs) ws p = k * numK K xs ws p := by
  unfold numK
  rw [if_neg k2, if_neg k2]
  by_cases k3 : K.l.k = 3
  · rw [if_pos k3, if_pos k3, ← sum_scale]
    exact congrArg (fun f => sumU (List.map f _)) (funext fun t => ug_scale k xs t)
  · rw [if_neg k3, if_neg k3, ← sum_scale]
    exact congrArg (fun f => sumU (List.map f _)) (funext fun t => by unfold termU; rw [ug_scale]; grind)
theorem lay_add {K : Kn} (k2 : K.l.k ≠ 2) {xs ys ws : List UInt64} (h : xs.length = ys.length) : layK K (addU xs ys) ws = addU (layK K xs ws) (layK K ys ws) := by
  unfold layK; rw [addU_map]; exact congrArg (fun f => List.map f _) (funext fun p => num_add k2 h _)
theorem lay_scale {K : Kn} (k2 : K.l.k ≠ 2) (k : UInt64) {xs ws : List UInt64} : layK K (scaleU k xs) ws = scaleU k (layK K xs ws) := by
  unfold layK; rw [scaleU_map]; exact congrArg (fun f => List.map f _) (funext fun p => num_scale k2 k _)
theorem num_wadd {K : Kn} (k2 : K.l.k ≠ 2) (k3 : K.l.k ≠ 3) {xs ws vs : List UInt64} (h : ws.length = vs.length) (p : Int) : numK K xs (addU ws vs) p = numK K xs ws p + numK K xs vs p := by
  unfold numK
  rw [if_neg k2, if_neg k2, if_neg k2, if_neg k3, if_neg k3, if_neg k3, ← sum_add]
  exact congrArg (fun f => sumU (List.map f _)) (funext fun t => by unfold termU; rw [ug_add h]; grind)
theorem num_wscale {K : Kn} (k2 : K.l.k ≠ 2) (k3 : K.l.k ≠ 3) (k : UInt64) {xs ws : List UInt64} (p : Int) : numK K xs (scaleU k ws) p = k * numK K xs ws p := by
  unfold numK
  rw [if_neg k2, if_neg k2, if_neg k3, if_neg k3, ← sum_scale]
  exact congrArg (fun f => sumU (List.map f _)) (funext fun t => by unfold termU; rw [ug_scale]; grind)
theorem lay_wadd {K : Kn} (k2 : K.l.k ≠ 2) (k3 : K.l.k ≠ 3) {xs ws vs : List UInt64} (h : ws.length = vs.length) : layK K xs (addU ws vs) = addU (layK K xs ws) (layK K xs vs) := by
  unfold layK; rw [addU_map]; exact congrArg (fun f => List.map f _) (funext fun p => num_wadd k2 k3 h _)
theorem lay_wscale {K : Kn} (k2 : K.l.k ≠ 2) (k3 : K.l.k ≠ 3) (k : UInt64) {xs ws : List UInt64} : layK K xs (scaleU k ws) = scaleU k (layK K xs ws) := by
  unfold layK; rw [scaleU_map]; exact congrArg (fun f => List.map f _) (funext fun p => num_wscale k2 k3 k _)
theorem lay_noW {K : Kn} (k : K.l.k = 2 ∨ K.l.k = 3) (xs ws vs : List UInt64) : layK K xs ws = layK K xs vs := by
  unfold layK
  refine congrArg (fun f => List.map f _) (funext fun p => ?_)
  unfold numK
  rcases k with k | k
  · rw [if_pos k, if_pos k]
  · rw [if_neg (show ¬ K.l.k = 2 by omega), if_neg (show ¬ K.l.k = 2 by omega), if_pos k, if_pos k]
theorem lay_square {K : Kn} (g : Good K) (k : K.l.k = 2) {xs : List UInt64} (hx : (xs.length : Int) = K.i.n) (ws : List UInt64) : layK K xs ws = mulU xs xs := by
  apply List.ext_getElem?
  intro j
  have hu : K.u.n.toNat = xs.length := by rw [g.square k]; omega
  by_cases hj : j < xs.length
  · rw [lay_get (by omega)]
    unfold numK mulU
    rw [if_pos k, List.getElem?_zipWith, ug_get hj]
  · rw [List.getElem?_eq_none (by rw [lay_len]; omega), List.getElem?_eq_none (by simp [mulU]; omega)]
theorem mul_scale (k : UInt64) : ∀ xs : List UInt64, mulU (scaleU k xs) (scaleU k xs) = scaleU (k * k) (mulU xs xs)
  | [] => rfl
  | x :: xs => by
    have := mul_scale k xs
    unfold mulU scaleU at this ⊢
    simp only [List.map_cons, List.zipWith_cons_cons, this]
    congr 1
    grind
theorem lay_zero (K : Kn) (n : Nat) (ws : List UInt64) : layK K (noughts n) ws = noughts K.u.n.toNat := by
  unfold layK
  have : ∀ p : Nat, numK K (noughts n) ws p = 0 := fun p => by
    unfold numK
    split
    · rw [ug_nought]; rfl
    · split
      · exact sum_none _ _ fun t _ => ug_nought n t
      · exact sum_none _ _ fun t _ => by unfold termU; rw [ug_nought]; exact UInt64.zero_mul
  simp only [this]
  unfold noughts
  rw [List.map_const', List.length_range]
theorem lay_wzero {K : Kn} (k2 : K.l.k ≠ 2) (k3 : K.l.k ≠ 3) (n : Nat) (xs : List UInt64) : layK K xs (noughts n) = noughts K.u.n.toNat := by
  unfold layK
  have : ∀ p : Nat, numK K xs (noughts n) p = 0 := fun p => by
    unfold numK
    rw [if_neg k2, if_neg k3]
    exact sum_none _ _ fun t _ => by unfold termU; rw [ug_nought]; exact UInt64.mul_zero
  simp only [this]
  unfold noughts
  rw [List.map_const', List.length_range]

/-! ### The document's number -/
def termR (xs ws : List UInt64) (t : Tm) : UInt64 := if t.w < 0 then ug xs t.x * ug xs t.x else ug xs t.x * ug ws t.w
def numR (K : Kn) (xs ws : List UInt64) (p : Int) : UInt64 := sumU ((termsK K p).map (termR xs ws)) + sumU ((partsK K p).map (ug xs))
theorem w_yes {K : Kn} (g : Good K) (k2 : K.l.k ≠ 2) (k3 : K.l.k ≠ 3) : 0 < K.w := by
  have := (w_pos g.2.1 g.1 g.2.2.1)
  unfold Kn.w
  have h1 := this.1
  have h2 := this.2.1
  by_cases e : wI K.i K.l = 0
  · rcases h1.1 e with k | k
    · exact absurd k k2
    · exact absurd k k3
  · omega
theorem num_ref {K : Kn} (g : Good K) {p : Int} (hp : hasK K p = true) (xs ws : List UInt64) : numR K xs ws p = numK K xs ws p := by
  unfold numR numK
  by_cases k2 : K.l.k = 2
  · rw [if_pos k2]
    unfold termsK partsK
    rw [if_neg (by omega), if_pos k2, if_neg (by omega)]
    simp [sumU, termR]
  · rw [if_neg k2]
    by_cases k3 : K.l.k = 3
    · rw [if_pos k3]
      unfold termsK
      rw [if_neg (by omega), if_neg k2, if_neg (by omega)]
      simp [sumU]
    · rw [if_neg k3]
      unfold partsK
      rw [if_neg k3]
      have : (termsK K p).map (termR xs ws) = (termsK K p).map (termU xs ws) := by
        refine List.map_congr_left fun t ht => ?_
        obtain ⟨_, _, _, h4⟩ := terms_rng g hp t ht
        have := h4 (w_yes g k2 k3)
        have := g.2.2.2.2.1
        unfold termR termU
        rw [if_neg (by omega)]
      rw [this]
      simp [sumU]

end Go.Proofs.Ytbcmhoomdackkaa

namespace Go.Proofs.Ytbcmhoomdackkaa
open Go.RowKit

def okL (N : Nt) (i : Int) (xs ws : List UInt64) : Bool := decide ((errN N = 0 ∧ 0 ≤ i ∧ i < (N.ls.length : Int)) ∧ (xs.length : Int) = (atN N i).i.n ∧ (ws.length : Int) = totW (knN N))
def layN (N : Nt) (i : Int) (xs ws : List UInt64) : List UInt64 := if okL N i xs ws = true then layK (atN N i) xs ws else []
def runN (N : Nt) (ws : List UInt64) : Nat → List UInt64 → List UInt64
  | 0, xs => xs
  | k + 1, xs => layK (atN N (k : Nat)) (runN N ws k xs) ws
def okF (N : Nt) (xs ws : List UInt64) : Bool := decide (errN N = 0 ∧ (xs.length : Int) = N.s.n ∧ (ws.length : Int) = totW (knN N))
def fN (N : Nt) (xs ws : List UInt64) : List UInt64 := if okF N xs ws = true then runN N ws N.ls.length xs else []
theorem okL_out {N : Nt} {i : Int} {xs ws : List UInt64} (h : okL N i xs ws = true) : (errN N = 0 ∧ 0 ≤ i ∧ i < (N.ls.length : Int)) ∧ (xs.length : Int) = (atN N i).i.n ∧ (ws.length : Int) = totW (knN N) := of_decide_eq_true h
theorem okF_out {N : Nt} {xs ws : List UInt64} (h : okF N xs ws = true) : errN N = 0 ∧ (xs.length : Int) = N.s.n ∧ (ws.length : Int) = totW (knN N) := of_decide_eq_true h
theorem lay_yes {N : Nt} {i : Int} {xs ws : List UInt64} (h : okL N i xs ws = true) : layN N i xs ws = layK (atN N i) xs ws := if_pos h
theorem lay_no {N : Nt} {i : Int} {xs ws : List UInt64} (h : okL N i xs ws = false) : layN N i xs ws = [] := if_neg (by rw [h]; decide)
theorem f_yes {N : Nt} {xs ws : List UInt64} (h : okF N xs ws = true) : fN N xs ws = runN N ws N.ls.length xs := if_pos h
theorem f_no {N : Nt} {xs ws : List UInt64} (h : okF N xs ws = false) : fN N xs ws = [] := if_neg (by rw [h]; decide)
theorem okL_good {c h x : Int} {ls : List Ly} {i : Int} {xs ws : List UInt64} (hk : okL ⟨c, h, x, ls⟩ i xs ws = true) : Good (atN ⟨c, h, x, ls⟩ i) := good_at (isB_yes (okL_out hk).1)
/-- Whether it fits hangs on lengths alone. -/
theorem okL_len {N : Nt} {i : Int} {xs ys ws vs : List UInt64} (h1 : xs.length = ys.length) (h2 : ws.length = vs.length) : okL N i xs ws = okL N i ys vs := by unfold okL; rw [h1, h2]

theorem run_end (c h x : Int) (ls : List Ly) {k : Nat} {l : Ly} (hl : ls[k]? = some l) : endS ⟨c, h, x⟩ (ls.take (k + 1)) = outS (endS ⟨c, h, x⟩ (ls.take k)) l := by
  rw [List.take_add_one, hl, Option.toList, end_app]; rfl
theorem run_len {c h x : Int} {ls : List Ly} (e : errN ⟨c, h, x, ls⟩ = 0) (ws : List UInt64) {xs : List UInt64} (hx : (xs.length : Int) = (⟨c, h, x⟩ : Sh).n) : ∀ k : Nat, k ≤ ls.length → ((runN ⟨c, h, x, ls⟩ ws k xs).length : Int) = (endS ⟨c, h, x⟩ (ls.take k)).n
  | 0, _ => by simpa [runN, endS] using hx
  | k + 1, hk => by
    have hl := get_ly (show k < ls.length by omega)
    rw [runN, lay_len, run_end c h x ls hl, at_some e hl]
    have := size_bd (outS (endS ⟨c, h, x⟩ (ls.take k)) (ls.getD k Ly.z))
    show ((outS _ _).n.toNat : Int) = _
    omega
/-- Each step of a run is its layer's. -/
theorem run_ok {c h x : Int} {ls : List Ly} {xs ws : List UInt64} (h0 : okF ⟨c, h, x, ls⟩ xs ws = true) {k : Nat} (hk : k < ls.length) : okL ⟨c, h, x, ls⟩ (k : Nat) (runN ⟨c, h, x, ls⟩ ws k xs) ws = true := by
  obtain ⟨e, h1, h2⟩ := okF_out h0
  have hl := get_ly hk
  refine decide_eq_true ⟨⟨e, by omega, by show (k : Int) < (ls.length : Int); omega⟩, ?_, h2⟩
  rw [run_len e ws h1 k (by omega), at_some e hl]

/-! ### Cut into two -/
theorem seq_shift : ∀ (xs : List Int) (b d : Int), seqT (b + d) xs = (seqT b xs).map fun t => ⟨t.x, t.w + d⟩
  | [], _, _ => rfl
  | x :: xs, b, d => by
    simp only [seqT, List.map_cons]
    rw [← seq_shift xs (b + 1) d, show b + 1 + d = b + d + 1 by omega]
theorem terms_shift (K : Kn) (k2 : K.l.k ≠ 2) (d p : Int) : termsK ⟨K.l, K.i, K.u, K.a + d⟩ p = (termsK K p).map fun t => ⟨t.x, t.w + d⟩ := by
  obtain ⟨l, i, u, a⟩ := K
  unfold termsK
  dsimp only at k2 ⊢
  by_cases k1 : l.k = 1
  · rw [if_pos k1, if_pos k1, ← seq_shift]
    congr 1
    omega
  · rw [if_neg k1, if_neg k1, if_neg k2, if_neg k2]
    by_cases k4 : l.k = 4
    · rw [if_pos k4, if_pos k4, ← seq_shift]
      congr 1
      omega
    · rw [if_neg k4, if_neg k4]; rfl
theorem ug_drop (ws : List UInt64) {d : Nat} {j : Int} (j0 : 0 ≤ j) : ug (ws.drop d) j = ug ws (j + (d : Nat)) := by
  unfold ug
  rw [List.getD_eq_getElem?_getD, List.getD_eq_getElem?_getD, List.getElem?_drop, show d + j.toNat = (j + (d : Int)).toNat by omega]
theorem ug_take (ws : List UInt64) {d : Nat} {j : Int} (j1 : j < (d : Int)) (d0 : 0 < d) : ug (ws.take d) j = ug ws j := by
  unfold ug
  rw [List.getD_eq_getElem?_getD, List.getD_eq_getElem?_getD, List.getElem?_take, if_pos (by omega)]
theorem lay_drop {K : Kn} (g : Good K) (xs ws : List UInt64) (d : Nat) : layK ⟨K.l, K.i, K.u, K.a + (d : Nat)⟩ xs ws = layK K xs (ws.drop d) := by
  unfold layK
  refine List.map_congr_left fun p hp => ?_
  rw [List.mem_range] at hp
  have hh : hasK K (p : Nat) = true := has_yes (by omega) (by have : p < K.u.n.toNat := hp; omega)
  unfold numK
  show (if K.l.k = 2 then _ else _) = _
  by_cases k2 : K.l.k = 2
  · rw [if_pos k2, if_pos k2]
  · rw [if_neg k2, if_neg k2]
    show (if K.l.k = 3 then _ else _) = _
    by_cases k3 : K.l.k = 3
    · rw [if_pos k3, if_pos k3]; rfl
    · rw [if_neg k3, if_neg k3, terms_shift K k2, List.map_map]
      congr 1
      refine List.map_congr_left fun t ht => ?_
      obtain ⟨_, _, _, h4⟩ := terms_rng g hh t ht
      have := h4 (w_yes g k2 k3)
      have := g.2.2.2.2.1
      show ug xs t.x * ug ws (t.w + (d : Int)) = ug xs t.x * ug (ws.drop d) t.w
      rw [ug_drop ws (by omega)]
theorem lay_take {K : Kn} (g : Good K) (xs ws : List UInt64) {d : Nat} (hd : K.a + K.w ≤ (d : Int)) : layK K xs (ws.take d) = layK K xs ws := by
  unfold layK
  refine List.map_congr_left fun p hp => ?_
  rw [List.mem_range] at hp
  have hh : hasK K (p : Nat) = true := has_yes (by omega) (by omega)
  unfold numK
  by_cases k2 : K.l.k = 2
  · rw [if_pos k2, if_pos k2]
  · rw [if_neg k2, if_neg k2]
    by_cases k3 : K.l.k = 3
    · rw [if_pos k3, if_pos k3]
    · rw [if_neg k3, if_neg k3]
      congr 1
      refine List.map_congr_left fun t ht => ?_
      obtain ⟨_, _, _, h4⟩ := terms_rng g hh t ht
      have := h4 (w_yes g k2 k3)
      have := g.2.2.2.2.1
      unfold termU
      rw [ug_take ws (by omega) (by omega)]
/-- The rest of a right network is right, too. -/
theorem rest_ok {c h x : Int} {ls : List Ly} (k : Nat) (e : errN ⟨c, h, x, ls⟩ = 0) :
    errN ⟨(endS ⟨c, h, x⟩ (ls.take k)).c, (endS ⟨c, h, x⟩ (ls.take k)).h, (endS ⟨c, h, x⟩ (ls.take k)).x, ls.drop k⟩ = 0 := by
  obtain ⟨r, f3, t, w, p, l8⟩ := ok_all e
  have r : (⟨c, h, x⟩ : Sh).r = true := r
  rw [← List.take_append_drop k ls] at t w p f3
  rw [fit_app, Bool.and_eq_true] at t
  rw [w_app] at w
  rw [p_app] at p
  obtain ⟨g1, g2⟩ := all_parts f3
  have er := end_right _ _ r g1 t.1
  obtain ⟨n1, n2⟩ := sums_nn r g1 t.1
  obtain ⟨b1, b2, b3, b4, b5, b6, b7⟩ := right_bd er
  generalize hE : endS ⟨c, h, x⟩ (ls.take k) = E at *
  have hf : formB ⟨E.c, E.h, E.x, ls.drop k⟩ = true := form_mk (by simp only [List.all_cons, List.all_nil, Bool.and_true]; rw [win_mk (by omega) (by omega), win_mk (by omega) (by omega), win_mk (by omega) (by omega)]; rfl) (by show (ls.drop k).length ≤ 8; rw [List.length_drop]; omega) g2
  unfold errN
  rw [if_neg (by rw [hf]; decide), if_neg (by rw [show (⟨E.c, E.h, E.x, ls.drop k⟩ : Nt).s.r = true from er]; decide), if_neg (by rw [show fitL (⟨E.c, E.h, E.x, ls.drop k⟩ : Nt).s (ls.drop k) = true from t.2]; decide), if_pos]
  exact ⟨by show sumW E (ls.drop k) ≤ 512; omega, by show sumP E (ls.drop k) ≤ 512; omega⟩
theorem run_take {c h x : Int} {ls : List Ly} (e : errN ⟨c, h, x, ls⟩ = 0) (k : Nat) (ws : List UInt64) {d : Nat} (hd : (d : Int) = sumW ⟨c, h, x⟩ (ls.take k)) (hk : k ≤ ls.length) (xs : List UInt64) :
    ∀ j : Nat, j ≤ k → runN ⟨c, h, x, ls.take k⟩ (ws.take d) j xs = runN ⟨c, h, x, ls⟩ ws j xs
  | 0, _ => rfl
  | j + 1, hj => by
    have hl := get_ly (show j < ls.length by omega)
    have hl2 : (ls.take k)[j]? = some (ls.getD j Ly.z) := by rw [List.getElem?_take, if_pos (by omega)]; exact hl
    have e1 : atN ⟨c, h, x, ls.take k⟩ (j : Nat) = atN ⟨c, h, x, ls⟩ (j : Nat) := by
      rw [at_some (cut_ok k e) hl2, at_some e hl, List.take_take, Nat.min_eq_left (by omega)]
    rw [runN, runN, run_take e k ws hd hk xs j (by omega), e1]
    have g : Good (atN ⟨c, h, x, ls⟩ (j : Nat)) := good_at (isB_yes ⟨e, by omega, by show (j : Int) < (ls.length : Int); omega⟩)
    refine lay_take g _ ws ?_
    rw [hd, at_some e hl]
    show sumW ⟨c, h, x⟩ (ls.take j) + wI (endS ⟨c, h, x⟩ (ls.take j)) (ls.getD j Ly.z) ≤ _
    obtain ⟨r, f3, t, _⟩ := ok_all e
    have r : (⟨c, h, x⟩ : Sh).r = true := r
    have h1 : ls.take k = ls.take (j + 1) ++ (ls.take k).drop (j + 1) := by
      have := (List.take_append_drop (j + 1) (ls.take k)).symm
      rwa [List.take_take, Nat.min_eq_left (by omega)] at this
    rw [h1, w_app]
    have h2 : sumW ⟨c, h, x⟩ (ls.take (j + 1)) = sumW ⟨c, h, x⟩ (ls.take j) + wI (endS ⟨c, h, x⟩ (ls.take j)) (ls.getD j Ly.z) := by
      rw [List.take_add_one, hl, Option.toList, w_app]
      show _ + (_ + 0) = _
      omega
    have a1 : (ls.take k).all lyB = true := all_take f3 k
    have t1 : fitL ⟨c, h, x⟩ (ls.take k) = true := fit_take t k
    rw [h1] at a1 t1
    rw [fit_app, Bool.and_eq_true] at t1
    obtain ⟨q1, q2⟩ := all_parts a1
    have := (sums_nn (end_right _ _ r q1 t1.1) q2 t1.2).1
    omega
theorem run_rest {c h x : Int} {ls : List Ly} (e : errN ⟨c, h, x, ls⟩ = 0) (k : Nat) (ws : List UInt64) {d : Nat} (hd : (d : Int) = sumW ⟨c, h, x⟩ (ls.take k)) (hk : k ≤ ls.length) {E : Sh} (hE : E = endS ⟨c, h, x⟩ (ls.take k)) (xs : List UInt64) :
    ∀ j : Nat, k + j ≤ ls.length → runN ⟨E.c, E.h, E.x, ls.drop k⟩ (ws.drop d) j (runN ⟨c, h, x, ls⟩ ws k xs) = runN ⟨c, h, x, ls⟩ ws (k + j) xs
  | 0, _ => rfl
  | j + 1, hj => by
    have er : errN ⟨E.c, E.h, E.x, ls.drop k⟩ = 0 := by rw [hE]; exact rest_ok k e
    have hl := get_ly (show k + j < ls.length by omega)
    have hl2 : (ls.drop k)[j]? = some (ls.getD (k + j) Ly.z) := by rw [List.getElem?_drop]; exact hl
    have h1 : ls.take (k + j) = ls.take k ++ (ls.drop k).take j := List.take_add
    have eE : (⟨E.c, E.h, E.x⟩ : Sh) = endS ⟨c, h, x⟩ (ls.take k) := hE
    have e1 : atN ⟨c, h, x, ls⟩ ((k + j : Nat) : Int) = ⟨(atN ⟨E.c, E.h, E.x, ls.drop k⟩ (j : Nat)).l, (atN ⟨E.c, E.h, E.x, ls.drop k⟩ (j : Nat)).i, (atN ⟨E.c, E.h, E.x, ls.drop k⟩ (j : Nat)).u, (atN ⟨E.c, E.h, E.x, ls.drop k⟩ (j : Nat)).a + (d : Nat)⟩ := by
      rw [at_some e hl, at_some er hl2, h1, end_app, w_app, eE, hd]
      show (⟨_, _, _, _⟩ : Kn) = ⟨_, _, _, _⟩
      rw [Int.add_comm]
    have g : Good (atN ⟨E.c, E.h, E.x, ls.drop k⟩ (j : Nat)) := good_at (isB_yes ⟨er, by omega, by show (j : Int) < ((ls.drop k).length : Int); rw [List.length_drop]; omega⟩)
    rw [runN, run_rest e k ws hd hk hE xs j (by omega), ← lay_drop g, ← e1]
    rfl

end Go.Proofs.Ytbcmhoomdackkaa
