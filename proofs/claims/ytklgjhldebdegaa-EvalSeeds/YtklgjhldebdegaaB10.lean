/-
  What the laws of this seat stand on, part 10.
-/
import Derived.Test.YtklgjhldebdegaaB09
import Derived.Deep.RegionHeld3
import Derived.Deep.AppendLies
import Derived.Lib.AppendZeros
import Derived.Maps.AppendAt
import Derived.Laws.StructEq
namespace Go.Proofs.Ytklgjhldebdegaa
open Go.RowKit
/-- A gate's places lie within what goes in, and the weights. -/
theorem gate_in {c h x : Int} {ls : List Ly} (e : errN ⟨c, h, x, ls⟩ = 0) {s : Nat} (hs : s < (stagesN ⟨c, h, x, ls⟩).length) {j : Nat} (hj : j < manyN ⟨c, h, x, ls⟩ s) :
    0 ≤ (gtN ⟨c, h, x, ls⟩ (fromN ⟨c, h, x, ls⟩ s + j)).x ∧ (gtN ⟨c, h, x, ls⟩ (fromN ⟨c, h, x, ls⟩ s + j)).x < inN ⟨c, h, x, ls⟩ (s : Nat) ∧ (gtN ⟨c, h, x, ls⟩ (fromN ⟨c, h, x, ls⟩ s + j)).w < totW (knN ⟨c, h, x, ls⟩) ∧
      0 ≤ (gtN ⟨c, h, x, ls⟩ (fromN ⟨c, h, x, ls⟩ s + j)).a ∧ (gtN ⟨c, h, x, ls⟩ (fromN ⟨c, h, x, ls⟩ s + j)).a < (atN ⟨c, h, x, ls⟩ (stgN ⟨c, h, x, ls⟩ s : Nat)).u.n := by
  obtain ⟨g, k3⟩ := stage_good e hs
  obtain ⟨r1, r2⟩ := stage_range e hs
  have pp := per_pos g k3
  obtain ⟨P, hP⟩ : ∃ P : Nat, perK (atN ⟨c, h, x, ls⟩ (stgN ⟨c, h, x, ls⟩ s : Nat)) = P := ⟨(perK (atN ⟨c, h, x, ls⟩ (stgN ⟨c, h, x, ls⟩ s : Nat))).toNat, by omega⟩
  have ub := size_bd (atN ⟨c, h, x, ls⟩ (stgN ⟨c, h, x, ls⟩ s : Nat)).u
  rw [hP] at r2 pp
  rw [Int.toNat_natCast] at r2
  have p1 : j / P < (atN ⟨c, h, x, ls⟩ (stgN ⟨c, h, x, ls⟩ s : Nat)).u.n.toNat := Nat.div_lt_of_lt_mul (by rw [Nat.mul_comm, ← r2]; exact hj)
  have p2 : j % P < P := Nat.mod_lt _ (by omega)
  obtain ⟨t, ht, hg⟩ := stage_gate e hs p1 (j := j % P) (by rw [hP]; simpa using p2)
  rw [hP, Int.toNat_natCast, Nat.div_add_mod' j P] at hg
  rw [hg]
  obtain ⟨q, hq⟩ : ∃ q, q = j / P := ⟨_, rfl⟩
  rw [← hq] at p1 ht ⊢
  have hh := has_yes (K := atN ⟨c, h, x, ls⟩ (stgN ⟨c, h, x, ls⟩ s : Nat)) (p := ((q : Nat) : Int)) (by omega) (by omega)
  obtain ⟨t1, t2, t3, t4⟩ := terms_rng g hh t (List.mem_of_getElem? ht)
  refine ⟨t1, by rw [in_layer e hs]; exact t2, ?_, by show (0 : Int) ≤ ((q : Nat) : Int); omega, by show ((q : Nat) : Int) < _; omega⟩
  show t.w < _
  have hl := get_ly (stg_at e hs).1
  have tot : (atN ⟨c, h, x, ls⟩ (stgN ⟨c, h, x, ls⟩ s : Nat)).a + (atN ⟨c, h, x, ls⟩ (stgN ⟨c, h, x, ls⟩ s : Nat)).w ≤ totW (knN ⟨c, h, x, ls⟩) := by
    rw [(tots e).1, at_some e hl]
    show sumW ⟨c, h, x⟩ (ls.take (stgN ⟨c, h, x, ls⟩ s)) + wI (endS ⟨c, h, x⟩ (ls.take (stgN ⟨c, h, x, ls⟩ s))) (ls.getD (stgN ⟨c, h, x, ls⟩ s) Ly.z) ≤ _
    obtain ⟨r, f3, t, _⟩ := ok_all e
    have r : (⟨c, h, x⟩ : Sh).r = true := r
    have h1 : ls = ls.take (stgN ⟨c, h, x, ls⟩ s + 1) ++ ls.drop (stgN ⟨c, h, x, ls⟩ s + 1) := (List.take_append_drop _ ls).symm
    have h2 : sumW ⟨c, h, x⟩ (ls.take (stgN ⟨c, h, x, ls⟩ s + 1)) = sumW ⟨c, h, x⟩ (ls.take (stgN ⟨c, h, x, ls⟩ s)) + wI (endS ⟨c, h, x⟩ (ls.take (stgN ⟨c, h, x, ls⟩ s))) (ls.getD (stgN ⟨c, h, x, ls⟩ s) Ly.z) := by
      rw [List.take_add_one, hl, Option.toList, w_app]
      show _ + (_ + 0) = _
      omega
    have h3 : sumW ⟨c, h, x⟩ ls = sumW ⟨c, h, x⟩ (ls.take (stgN ⟨c, h, x, ls⟩ s + 1)) + sumW (endS ⟨c, h, x⟩ (ls.take (stgN ⟨c, h, x, ls⟩ s + 1))) (ls.drop (stgN ⟨c, h, x, ls⟩ s + 1)) := by
      rw [← w_app, List.take_append_drop]
    have a1 := f3
    have t1 := t
    rw [h1] at a1
    have t1 : fitL ⟨c, h, x⟩ (ls.take (stgN ⟨c, h, x, ls⟩ s + 1) ++ ls.drop (stgN ⟨c, h, x, ls⟩ s + 1)) = true := by rw [← h1]; exact t
    rw [fit_app, Bool.and_eq_true] at t1
    obtain ⟨q1, q2⟩ := all_parts a1
    have := (sums_nn (end_right _ _ r q1 t1.1) q2 t1.2).1
    omega
  have := w_pos g.2.1 g.1 g.2.2.1
  have w0 : 0 ≤ (atN ⟨c, h, x, ls⟩ (stgN ⟨c, h, x, ls⟩ s : Nat)).w := this.2.1
  have a0 := g.2.2.2.2.1
  by_cases q : (atN ⟨c, h, x, ls⟩ (stgN ⟨c, h, x, ls⟩ s : Nat)).w = 0
  · have := t3 q; omega
  · have := t4 (by omega); omega

end Go.Proofs.Ytklgjhldebdegaa

namespace Go.Proofs.Ytklgjhldebdegaa
open Go.RowKit

def addR (a b : List UInt64) : List UInt64 := List.zipWith (· + ·) a b
theorem Rg.take {α : Type} {f : α → List Value} {w : World} {A : Option Addr} {xs : List α} (h : Rg f w A xs) (k : Nat) : Rg f w A (xs.take k) := fun h0 => by
  obtain ⟨b, off, e, hlt, hc⟩ := h (by have : (xs.take k).length ≤ xs.length := by simp; omega
                                       omega)
  refine ⟨b, off, e, hlt, fun j u hj => hc j u ?_⟩
  have q : xs.flatMap f = (xs.take k).flatMap f ++ (xs.drop k).flatMap f := by rw [← List.flatMap_append, List.take_append_drop]
  rw [q, List.getElem?_append_left (List.getElem?_eq_some_iff.1 hj).1]
  exact hj
theorem zip_takeR {g : UInt64 → UInt64 → UInt64} (xs ys : List UInt64) : List.zipWith g (xs.take (min xs.length ys.length)) (ys.take (min xs.length ys.length)) = List.zipWith g xs ys := by
  apply List.ext_getElem
  · simp
  · intro i h1 h2
    simp
theorem get_some {α : Type} {xs : List α} {k n : Nat} (h : k < n) (hn : xs.length = n) : ∃ x, xs[k]? = some x := ⟨_, List.getElem?_eq_getElem (by omega)⟩

set_option maxHeartbeats 400000 in
theorem nadd_core (A B : Option Addr) (cA cB na nb n : Nat) (xs ys : List UInt64) (w : World) (hx : Rg ucells w A xs) (hy : Rg ucells w B ys)
    (lx : xs.length = n) (ly : ys.length = n) (hn : n ≤ 1000000) (hc : (n = na ∧ n ≤ nb ∧ n ≤ nb) ∨ (n = nb ∧ n < na ∧ n ≤ na)) :
    Calls Try.prog 10 #[.slice A na cA, .slice B nb cB] w (RowNew ucells (List.zipWith (· + ·) xs ys) w) := by
  obtain ⟨i0, hi, hz0, hz1, hz2⟩ := info_parts Try.info27
  have HX := Lib.hid hx; clear hx
  have HY := Lib.hid hy; clear hy
  obtain ⟨zs, hzs⟩ : ∃ zs, zs = List.zipWith (· + ·) xs ys := ⟨_, rfl⟩
  rw [← hzs]
  have lz : zs.length = n := by rw [hzs]; simp [lx, ly]
  have HZ := Lib.hid hzs; clear hzs
  have LX := Lib.hid lx; clear lx
  have LY := Lib.hid ly; clear ly
  have LZ := Lib.hid lz; clear lz
  rcases hc with ⟨h1, h2, h3⟩ | ⟨h1, h2, h3⟩
  all_goals
    subst h1
    go_enter Try.func10, Try.ntmps10
    go_wp2_with fail
    go_loopw [5, 6] (fun v i wr => ∃ k : Nat, k ≤ n ∧ i = .int .i64 k ∧ Hid (wr.ownsRow w.heap.size 27 1 v k ((zs.take k).flatMap ucells)) ∧ Hid (Below w.heap.size w wr)) (fun _ i _ => n - (intOf i).toNat)
    case atStart => exact ⟨0, Nat.zero_le _, rfl, World.ownsRow_nil _ _ _ _, Below.refl _ _⟩
    case round =>
      obtain ⟨k, hk, rfl, HOk, HBk⟩ := hrel
      by_cases hlt : k < n
      · obtain ⟨b1, o1, rfl, l1, c1⟩ := HX.out (by rw [LX.out]; omega)
        obtain ⟨b2, o2, rfl, l2, c2⟩ := HY.out (by rw [LY.out]; omega)
        obtain ⟨x, HXk⟩ := get_some hlt LX.out
        obtain ⟨y, HYk⟩ := get_some hlt LY.out
        have d1 := (HBk.out.cell (p := ⟨b1, o1 + k, none⟩) l1).trans (su_cell c1 HXk)
        have d2 := (HBk.out.cell (p := ⟨b2, o2 + k, none⟩) l2).trans (su_cell c2 HYk)
        have HZk : Hid (zs[k]? = some (x + y)) := by
          show _ = _
          rw [HZ.out, List.getElem?_zipWith, HXk, HYk]
        have hq := Nat.lt_of_lt_of_le hlt h3
        have HU := Lib.hid (uz_add x y)
        have hs := HBk.out.size
        clear c1 c2 HXk HYk
        go_wp2_with fail
        have a1 : u5.ownBlock ≠ some b1 := fun h => absurd (HOk.out.lt _ h).1 (by omega)
        have a2 : u5.ownBlock ≠ some b2 := fun h => absurd (HOk.out.lt _ h).1 (by omega)
        have A1 := Lib.hid a1; clear a1
        have A2 := Lib.hid a2; clear a2
        have k0 : (0 : Int) ≤ (k : Int) := Int.natCast_nonneg _
        have k1 : (k : Int) < (n : Int) := by omega
        have k2 := Int.ofNat_lt.2 hq
        go_region_held3 (fun w' => w'.cell? ⟨b1, o1 + k, none⟩ = some (.int .u64 (uz x)) ∧ w'.cell? ⟨b2, o2 + k, none⟩ = some (.int .u64 (uz y)))
          (first
            | go_keep
            | (go_split_ands
               refine ⟨?_, ?_⟩
               · (rw [hgrow.cell_far _ (by simp; omega) (Ne.symm A1.out)]; assumption)
               · (rw [hgrow.cell_far _ (by simp; omega) (Ne.symm A2.out)]; assumption)))
          ((refine step_append_lies _ (by rfl) _ _ _ (by rfl) w.heap.size 27 i0 _ 1 8 Try.underlying28 hi hz0 hz1 hz2 rfl (by omega) u5 k ((zs.take k).flatMap ucells) (by rfl) ((HOk.out.alloc _).drew) ⟨wr.heap.size, 0, none⟩ 1 1 [.int .u64 (IntKind.u64.wrap (uz x + uz y))] (by rfl) (by rfl) (World.news_of_block (cs := #[.int .u64 (IntKind.u64.wrap (uz x + uz y))]) (t := 27) (fr := (0, 0)) (heap_alloc_new wr _)) (by simp [Value.oneCell']) (by omega) (by unfold maxLen; omega) (by omega) (by simp; omega) (wr.heap.size + 1) (by simp) ?_; intro gg cap w2 hown2 hgrow hat hlt2))
        have HO2 : Hid (w2.ownsRow w.heap.size 27 1 (.slice (some ⟨gg, 0, none⟩) (k + 1) cap) (k + 1) ((zs.take (k + 1)).flatMap ucells)) := by
          show World.ownsRow _ _ _ _ _ _ _
          rw [take_get HZk.out, List.flatMap_append]
          simp only [List.flatMap_cons, List.flatMap_nil, List.append_nil, ucells]
          rw [← HU.out]
          exact hown2
        have HB2 : Hid (Below w.heap.size w w2) := ((HBk.out.alloc hs _).drew).grown hgrow (by simp; omega) (fun q hqq => (HOk.out.lt _ hqq).1)
        clear hown2 hgrow hat hlt2 HOk HBk HX HY d1 d2 HZk HU A1 A2 l1 l2 hs hq k2
        go_wp2_with fail
        go_roundw
        case rel => exact ⟨k + 1, by omega, by go_num, HO2, HB2⟩
        case measure => simp [intOf]; omega
      · obtain rfl : k = n := by omega
        have hf := HOk.out
        rw [List.take_of_length_le (by rw [LZ.out]; exact Nat.le_refl _)] at hf
        obtain ⟨A', c', rfl, e1, hr, e3, e4⟩ := own_cap ucells_len (by decide) hf
        have HR := Lib.hid hr; have E3 := Lib.hid e3; have E4 := Lib.hid e4; have E5 := Lib.hid (own_new hf)
        clear hr hf e1 e3 e4
        go_wp2_with fail
        go_ret
        exact ⟨A', c', k, rfl, LZ.out.symm, HR.out, HBk.out, E3.out, E4.out, E5.out⟩
theorem nadd (A B : Option Addr) (cA cB na nb : Nat) (xs ys : List UInt64) (w : World) (hx : Rg ucells w A xs) (hy : Rg ucells w B ys) (lx : na = xs.length) (ly : nb = ys.length) (hn : na ≤ 1000000) :
    Calls Try.prog 10 #[.slice A na cA, .slice B nb cB] w (RowNew ucells (addR xs ys) w) := by
  subst lx ly
  have := nadd_core A B cA cB xs.length ys.length (min xs.length ys.length) (xs.take (min xs.length ys.length)) (ys.take (min xs.length ys.length)) w (hx.take _) (hy.take _) (by simp) (by simp) (by omega) (by omega)
  rw [zip_takeR] at this
  exact this

end Go.Proofs.Ytklgjhldebdegaa

namespace Go.Proofs.Ytklgjhldebdegaa
open Go.RowKit

/-- A row of numbers in a block of its own. -/
def RB (w : World) (g : Nat) (us : List UInt64) : Prop :=
  ∃ cs : Array Value, w.heap[g]? = some (.cells cs 27 (0, 0)) ∧ cs.size = us.length ∧ ∀ (j : Nat) u, us[j]? = some u → cs[j]? = some (.int .u64 (uz u))
theorem RB.lt {w : World} {g : Nat} {us : List UInt64} (h : RB w g us) : g < w.heap.size := by
  obtain ⟨cs, h1, _⟩ := h
  exact (Array.getElem?_eq_some_iff.1 h1).1
theorem RB.start (w : World) (n : Nat) : RB (w.alloc (.cells (madeCells #[.int .u64 0] n) 27)) w.heap.size (noughts n) := by
  refine ⟨_, heap_alloc_new w _, by rw [size_madeCells]; simp [noughts], fun j u hj => ?_⟩
  unfold noughts at hj
  rw [List.getElem?_replicate] at hj
  by_cases q : j < n
  · rw [if_pos q] at hj
    obtain rfl := Option.some.inj hj
    simp [madeCells, q, Nat.mod_one]
    rfl
  · rw [if_neg q] at hj; cases hj
theorem RB.kept {w w' : World} {g : Nat} {us : List UInt64} (h : RB w g us) (hb : w'.heap[g]? = w.heap[g]?) : RB w' g us := by
  obtain ⟨cs, h1, h2⟩ := h
  exact ⟨cs, hb.trans h1, h2⟩
theorem RB.below {w w' : World} {g : Nat} {us : List UInt64} (h : RB w g us) (hb : Below w.heap.size w w') : RB w' g us := h.kept (hb.block g h.lt)
theorem RB.cell {w : World} {g : Nat} {us : List UInt64} (h : RB w g us) {j : Nat} (hj : j < us.length) : w.cell? ⟨g, j, none⟩ = some (.int .u64 (uz (us.getD j 0))) := by
  obtain ⟨cs, h1, _, h3⟩ := h
  rw [Lib.cell_of_heap h1]
  exact h3 j _ (by rw [List.getElem?_eq_getElem hj]; simp [List.getD_eq_getElem?_getD, hj])
theorem RB.frozen {w : World} {g : Nat} {us : List UInt64} (h : RB w g us) (j : Nat) : w.frozen? ⟨g, j, none⟩ = false := by
  obtain ⟨cs, h1, _⟩ := h
  exact Lib.frozen_of_heap h1 j
theorem RB.set {w : World} {g : Nat} {us : List UInt64} (h : RB w g us) (j : Nat) (x : UInt64) : RB (w.setCell ⟨g, j, none⟩ (.int .u64 (uz x))) g (us.set j x) := by
  obtain ⟨cs, h1, h2, h3⟩ := h
  refine ⟨_, Lib.heap_setCell_same h1 _, by simp [h2], fun i u hi => ?_⟩
  rw [List.getElem?_set] at hi
  by_cases e : j = i
  · subst e
    rw [if_pos rfl] at hi
    by_cases q : j < us.length
    · rw [if_pos q] at hi
      obtain rfl := Option.some.inj hi
      exact Array.getElem?_setIfInBounds_self_of_lt (by omega)
    · rw [if_neg q] at hi; cases hi
  · rw [if_neg e] at hi
    rw [Array.getElem?_setIfInBounds_ne e]
    exact h3 i u hi
theorem RB.rg {w : World} {g : Nat} {us : List UInt64} (h : RB w g us) : Rg ucells w (some ⟨g, 0, none⟩) us := fun _ => by
  have hl := h.lt
  obtain ⟨cs, h1, h2, h3⟩ := h
  refine ⟨g, 0, rfl, hl, fun j u hu => ?_⟩
  rw [Nat.zero_add, Lib.cell_of_heap h1]
  have hj : j < us.length := by
    have := (List.getElem?_eq_some_iff.1 hu).1
    rw [flat_len ucells_len] at this; omega
  have hx := List.getElem?_eq_getElem hj
  have := flat_get ucells_len us j 0 _ hx (by decide)
  rw [Nat.mul_one, Nat.add_zero] at this
  rw [this] at hu
  obtain rfl := Option.some.inj hu
  exact h3 j _ hx
theorem acc_row (at' : Nat → Nat) (val : Nat → UInt64) (o : List UInt64) (k a : Nat) (v : UInt64) (ha : at' k = a) (hv : val k = v) : accL at' val o (k + 1) = (accL at' val o k).set a ((accL at' val o k).getD a 0 + v) := by rw [accL, ha, hv]

end Go.Proofs.Ytklgjhldebdegaa

namespace Go.Proofs.Ytklgjhldebdegaa
open Go.RowKit
/-- An append whose run is known, in a drawn region. -/
theorem step_append_run {P : Program} {ops : Array Oper} {o : Oper} {a : Act} {K : Act → World → Prop} {Q : Exit → Act → World → Prop} {E : Prop} {w w' : World} (hgd : o.guard = none) (s x : Operand) (t tn : TypeId)
    (ho : o.op = .call { callee := .builtin .append, args := #[s, x], argTypes := #[t, tn] }) (vs vx : Value) (hs : a.eval s = vs) (hx : a.eval x = vx)
    (v' : Value) (hr : (Builtin.append_ #[t, tn] o.type #[vs, vx]).run P w = .ok v' w') (h : K (a.put o.dst v') w') :
    if Region.wanted o (yielded ops a.tmps) = true then Oper.wp P o a w K Q else E := by
  have hw : Region.wanted o (yielded ops a.tmps) = true := by simp [Region.wanted, hgd]
  rw [if_pos hw]
  exact Lib.wp_append_run w s x t tn ho vs vx hs hx v' w' hr h

end Go.Proofs.Ytklgjhldebdegaa

namespace Go.Proofs.Ytklgjhldebdegaa
open Go.RowKit

theorem two_new (w : World) (o1 o2 : Obj) : ((w.alloc o1).alloc o2).heap[w.heap.size]? = some o1 ∧ ((w.alloc o1).alloc o2).heap[w.heap.size + 1]? = some o2 := by
  have h2 := heap_alloc_new (w.alloc o1) o2
  have hs : (w.alloc o1).heap.size = w.heap.size + 1 := by simp
  rw [hs] at h2
  exact ⟨(Lib.alloc_old _ o2 w.heap.size (by omega)).trans (heap_alloc_new w o1), h2⟩
/-- An append of two numbers that lie in a block of their own. -/
theorem u_two_run {B : Nat} {w : World} {v : Value} {n : Nat} {xs : List UInt64} (h : w.ownsRow B 27 1 v n (xs.flatMap ucells)) (b : Nat) (d e : UInt64) (hc : w.heap[b]? = some (.cells #[.int .u64 (uz d), .int .u64 (uz e)] 27 (0, 0))) (hn : n ≤ 10000) (hB : B ≤ w.heap.size) :
    ∃ v' w', (Builtin.append_ #[28, 28] 28 #[v, .slice (some ⟨b, 0, none⟩) 2 2]).run Try.prog w = .ok v' w' ∧ w'.ownsRow B 27 1 v' (n + 2) ((xs ++ [d, e]).flatMap ucells) ∧ w.grownBy w' v.ownBlock ∧ (v'.ownBlock = v.ownBlock ∨ v'.ownBlock = some w.heap.size) := by
  obtain ⟨i0, hi, hz0, hz1, hz2⟩ := info_parts Try.info27
  obtain ⟨v', w', hrun, h2, h3, _, h5⟩ := run_append_own_at (P := Try.prog) w B 28 28 27 i0 (.int .u64 0) 1 8 Try.underlying28 hi hz0 hz1 hz2 rfl (by decide) v n (xs.flatMap ucells) h ⟨b, 0, none⟩ 2 2 ([d, e].flatMap ucells) rfl
    (fun j u hu => by
      rw [show (⟨b, 0, none⟩ : Addr).add j = ⟨b, j, none⟩ by unfold Addr.add; split <;> simp_all, Lib.cell_of_heap hc]
      match j, hu with
      | 0, hu => simpa [ucells] using hu
      | 1, hu => simpa [ucells] using hu
      | j + 2, hu => simp [ucells] at hu)
    (u_ones [d, e]) (by unfold maxLen; omega) (by omega) hB
  exact ⟨v', w', hrun, by rw [List.flatMap_append]; exact h2, h3, h5⟩
theorem u_two_off (A : Option Addr) (n c : Nat) (h1 : 2 ≤ n) (h3 : n ≤ c) :
    ∃ A', (∀ w, (Instr.slice 28 (.slice A n c) (some (.int .i64 2)) none none).run Try.prog w = .ok (.slice A' (n - 2) (c - 2)) w) ∧ ∀ w (xs : List UInt64), Rg ucells w A xs → xs.length = n → Rg ucells w A' (xs.drop 2) := by
  refine ⟨if c = 2 then A else A.map (·.add 2), fun w => ?_, fun w xs hx hl => ?_⟩
  · by_cases hc : c = 2
    · subst hc
      obtain rfl : n = 2 := by omega
      go_simp
    · have : ¬ c ≤ 2 := by omega
      rcases A with _ | A <;> go_simp <;> first | omega | (intros; omega)
  · intro h0
    rw [List.length_drop, hl] at h0
    rw [if_neg (by omega)]
    obtain ⟨b, o, rfl, lt, hc⟩ := hx (by omega)
    refine ⟨b, o + 2, by simp [Addr.add], lt, fun j u hu => ?_⟩
    have hj := (List.getElem?_eq_some_iff.1 hu).1
    rw [flat_len ucells_len, Nat.mul_one] at hj
    have g := flat_get ucells_len _ j 0 _ (List.getElem?_eq_getElem hj) (by omega)
    rw [Nat.mul_one, Nat.add_zero, hu] at g
    rw [Nat.add_assoc]
    refine hc (2 + j) u ?_
    have hl2 : 2 + j < xs.length := by rw [List.length_drop] at hj; omega
    have g2 := flat_get ucells_len xs (2 + j) 0 _ (List.getElem?_eq_getElem hl2) (by omega)
    rw [Nat.mul_one, Nat.add_zero] at g2
    rw [g2, g]
    simp
/-- A party that opens, in a variable. -/
def OpB (w : World) (g : Nat) (X : Option Addr) (nX cX : Nat) (W : Option Addr) (nW cW : Nat) (s : Value) : Prop := w.heap[g]? = some (.cells #[.slice X nX cX, .slice W nW cW, s] 150 (0, 0))
theorem OpB.lt {w : World} {g : Nat} {X : Option Addr} {nX cX : Nat} {W : Option Addr} {nW cW : Nat} {s : Value} (H : OpB w g X nX cX W nW cW s) : g < w.heap.size := (Array.getElem?_eq_some_iff.1 H).1
theorem opb_heap {w : World} {g : Nat} {X : Option Addr} {nX cX : Nat} {W : Option Addr} {nW cW : Nat} {s : Value} (H : OpB w g X nX cX W nW cW s) : w.heap[g]? = some (.cells #[.slice X nX cX, .slice W nW cW, s] 150 (0, 0)) := H
theorem oc_heap {w : World} {b : Nat} {o : On} (H : OC w b o) : w.heap[b]? = some (.cells #[.int .u64 (uz o.d), .int .u64 (uz o.e)] 156 (0, 0)) := H
theorem OpB.kept {w w' : World} {g : Nat} {X : Option Addr} {nX cX : Nat} {W : Option Addr} {nW cW : Nat} {s : Value} (H : OpB w g X nX cX W nW cW s) (e : w'.heap[g]? = w.heap[g]?) : OpB w' g X nX cX W nW cW s := e.trans H
theorem OpB.cells {w : World} {g : Nat} {X : Option Addr} {nX cX : Nat} {W : Option Addr} {nW cW : Nat} {s : Value} (H : OpB w g X nX cX W nW cW s) :
    w.cell? ⟨g, 0, none⟩ = some (.slice X nX cX) ∧ w.cell? ⟨g, 1, none⟩ = some (.slice W nW cW) ∧ w.cell? ⟨g, 2, none⟩ = some s := by
  refine ⟨?_, ?_, ?_⟩ <;> (rw [Lib.cell_of_heap H]; rfl)
theorem OpB.frozen {w : World} {g : Nat} {X : Option Addr} {nX cX : Nat} {W : Option Addr} {nW cW : Nat} {s : Value} (H : OpB w g X nX cX W nW cW s) (j : Nat) : w.frozen? ⟨g, j, none⟩ = false := Lib.frozen_of_heap H j
theorem OpB.set {w : World} {g : Nat} {X : Option Addr} {nX cX : Nat} {W : Option Addr} {nW cW : Nat} {s : Value} (H : OpB w g X nX cX W nW cW s) (s' : Value) : OpB (w.setCell ⟨g, 2, none⟩ s') g X nX cX W nW cW s' := Lib.heap_setCell_same H _
/-- How things stand when a party has opened k gates. -/
def OpJ (w0 : World) (g : Nat) (X : Option Addr) (nX cX : Nat) (W : Option Addr) (nW cW : Nat) (op : Nat → On) (O : Nat → Prop) (k : Nat) (w : World) : Prop :=
  ∃ s : Value, OpB w g X nX cX W nW cW s ∧ w.ownsRow w0.heap.size 27 1 s (2 * k) ((sayL op k).flatMap ucells) ∧ Below w0.heap.size w0 w ∧ w0.heap.size ≤ g ∧ ∀ b, O b ↔ (b = g ∨ s.ownBlock = some b)
theorem OpJ.owns {w0 : World} {g : Nat} {X : Option Addr} {nX cX : Nat} {W : Option Addr} {nW cW : Nat} {op : Nat → On} {O : Nat → Prop} {k : Nat} {w : World} (h : OpJ w0 g X nX cX W nW cW op O k w) : ∀ b, O b → w0.heap.size ≤ b ∧ b < w.heap.size := fun b q => by
  obtain ⟨s, h1, h2, h3, h4, h5⟩ := h
  rcases (h5 b).1 q with rfl | q
  · exact ⟨h4, h1.lt⟩
  · exact h2.lt b q
theorem OpJ.below {w0 : World} {g : Nat} {X : Option Addr} {nX cX : Nat} {W : Option Addr} {nW cW : Nat} {op : Nat → On} {O : Nat → Prop} {k : Nat} {w w' : World} (h : OpJ w0 g X nX cX W nW cW op O k w) (hb : Below w.heap.size w w') : OpJ w0 g X nX cX W nW cW op O k w' := by
  obtain ⟨s, h1, h2, h3, h4, h5⟩ := h
  exact ⟨s, h1.kept (hb.block g h1.lt), own_belowE h2 hb, chain h3 hb, h4, h5⟩

/-- A row of one's own stays when a block of another type changes. -/
theorem own_keepT {w w' : World} {B e n s g T : Nat} {v : Value} {xs : List Value} {cs : Array Value} {fr : Nat × Nat} (h : w.ownsRow B e s v n xs) (hg : w.heap[g]? = some (.cells cs T fr)) (hT : T ≠ e) (hb : ∀ b, b ≠ g → w'.heap[b]? = w.heap[b]?) : w'.ownsRow B e s v n xs := by
  have hne := own_ne_type h hg hT
  refine ⟨h.1, ?_⟩
  rcases h.2 with h0 | ⟨c, cap, cur, hv, hg2, hh, rest⟩
  · exact .inl h0
  · refine .inr ⟨c, cap, cur, hv, hg2, ?_, rest⟩
    rw [hb c (fun q => hne (by rw [hv, ← q]; rfl))]
    exact hh

/-- What is kept when a party's row has grown. -/
theorem open_keep {w0 w w6 wa wb : World} {g n : Nat} {s : Value} {xs : List Value} (h1 : Below w.heap.size w w6) (_h0 : Below w0.heap.size w0 w) (h2 : Below w6.heap.size w6 wa) (h3 : wa.grownBy wb s.ownBlock) (h4 : w.ownsRow w0.heap.size 27 1 s n xs) (hs : w0.heap.size ≤ w.heap.size) :
    Below w0.heap.size w wb ∧ ∀ b, b < w.heap.size → b ≠ g → s.ownBlock ≠ some b → wb.heap[b]? = w.heap[b]? := by
  have a := chain h1 h2
  refine ⟨((a.mono hs).grown h3 (Nat.le_trans hs a.size) fun k hk => (h4.lt k hk).1), fun b hb _ hn => ?_⟩
  exact (h3.block b (Nat.lt_of_lt_of_le hb a.size) (fun q => hn q.symm)).trans (a.block b hb)
theorem open_wh {g : Nat} {s s' : Value} {O : Nat → Prop} {w wa : World} (h : ∀ b, O b ↔ (b = g ∨ s.ownBlock = some b)) (h2 : s'.ownBlock = s.ownBlock ∨ s'.ownBlock = some wa.heap.size) (hs : w.heap.size ≤ wa.heap.size) :
    (∀ b, O b ↔ (b = g ∨ s.ownBlock = some b)) ∧ ∀ b, s'.ownBlock = some b → O b ∨ w.heap.size ≤ b := by
  refine ⟨h, fun b hb => ?_⟩
  rcases h2 with q | q
  · exact Or.inl ((h b).2 (Or.inr (by rw [← q]; exact hb)))
  · rw [hb] at q
    obtain rfl := Option.some.inj q
    exact Or.inr hs
theorem open_end {w0 w wb : World} {g : Nat} {X : Option Addr} {nX cX : Nat} {W : Option Addr} {nW cW : Nat} {op : Nat → On} {O : Nat → Prop} {k : Nat} {s s' so : Value} {ov : On}
    (h1 : OpB (wb.setCell ⟨g, 2, none⟩ s') g X nX cX W nW cW s') (h2 : wb.ownsRow w0.heap.size 27 1 s' (2 * k + 2) ((sayL op k ++ [ov.d, ov.e]).flatMap ucells)) (h3 : OpB wb g X nX cX W nW cW so)
    (h4 : Below w0.heap.size w wb ∧ ∀ b, b < w.heap.size → b ≠ g → s.ownBlock ≠ some b → wb.heap[b]? = w.heap[b]?) (h5 : (∀ b, O b ↔ (b = g ∨ s.ownBlock = some b)) ∧ ∀ b, s'.ownBlock = some b → O b ∨ w.heap.size ≤ b)
    (hg : w0.heap.size ≤ g) (ho : op k = ov) (h0 : Below w0.heap.size w0 w) :
    ∃ O', OpJ w0 g X nX cX W nW cW op O' (k + 1) (wb.setCell ⟨g, 2, none⟩ s') ∧ KeepO w0.heap.size O w (wb.setCell ⟨g, 2, none⟩ s') ∧ ∀ b, O' b → O b ∨ w.heap.size ≤ b := by
  have hr : (wb.setCell ⟨g, 2, none⟩ s').ownsRow w0.heap.size 27 1 s' (2 * (k + 1)) ((sayL op (k + 1)).flatMap ucells) := by
    rw [say_next, ho, show 2 * (k + 1) = 2 * k + 2 by omega]
    refine own_keepT h2 h3 (by decide) fun b hb => Below.heap_setCell _ _ _ _ hb
  have hB := h4.1.setCell (p := ⟨g, 2, none⟩) hg s'
  refine ⟨fun b => b = g ∨ s'.ownBlock = some b, ⟨s', h1, hr, h0.trans hB, hg, fun b => Iff.rfl⟩, ⟨hB, fun b hb hn => ?_⟩, fun b hb => ?_⟩
  · have n1 : b ≠ g := fun e => hn ((h5.1 b).2 (Or.inl e))
    exact (Below.heap_setCell _ _ _ _ n1).trans (h4.2 b hb n1 fun e => hn ((h5.1 b).2 (Or.inr e)))
  · rcases hb with rfl | hb
    · exact Or.inl ((h5.1 b).2 (Or.inl rfl))
    · exact h5.2 b hb
set_option maxHeartbeats 4000000 in
set_option maxRecDepth 100000 in
theorem open13 (w0 : World) (g : Nat) (X W : Option Addr) (nX cX nW cW : Nat) (xs ws : List UInt64) (op : Nat → On) (hX : Rg ucells w0 X xs) (lX : nX = xs.length) (hW : Rg ucells w0 W ws) (lW : nW = ws.length)
    (O : Nat → Prop) (k : Nat) (w : World) (a tx tw : Int) (tr : Tp) (hk : k ≤ 1000) (x0 : 0 ≤ tx) (x1 : tx < (nX : Int)) (x2 : tw < (nW : Int)) (hop : op k = openU (ug xs tx) (if 0 ≤ tw then ug ws tw else ug xs tx) tr)
    (hJ : OpJ w0 g X nX cX W nW cW op O k w) :
    Calls Try.prog 108 #[.pointer (some ⟨g, 0, none⟩), .int .i64 a, .agg #[.int .i64 tx, .int .i64 tw], .agg #[.int .u64 (uz tr.a), .int .u64 (uz tr.b), .int .u64 (uz tr.c)]] w fun e w' => e = .returned (.tuple #[]) ∧ ∃ O', OpJ w0 g X nX cX W nW cW op O' (k + 1) w' ∧ KeepO w0.heap.size O w w' ∧ ∀ b, O' b → O b ∨ w.heap.size ≤ b := by
  obtain ⟨s, hB, hR, hb, hg0, hOx⟩ := hJ
  obtain ⟨A, cc, rfl, hd1, hd2⟩ := own_rg ucells_len (by decide) hR
  clear hd1 hd2
  have OX := Lib.hid hOx
  have OR := Lib.hid hR
  have OBB := Lib.hid hB
  have BB := Lib.hid hb
  obtain ⟨g0, g1, g2⟩ := hB.cells
  have lg := hB.lt
  obtain ⟨xj, rfl⟩ : ∃ xj : Nat, tx = xj := ⟨tx.toNat, by omega⟩
  obtain ⟨bX, oX, rfl, lXb, vX⟩ := ug_at hX x0 (by rw [← lX]; exact x1)
  rw [Int.toNat_natCast] at vX
  obtain ⟨u, hu⟩ : ∃ u, u = ug xs (xj : Int) := ⟨_, rfl⟩
  rw [← hu] at vX hop
  have vx := (hb.cell (p := ⟨bX, oX + xj, none⟩) lXb).trans vX
  have lx := Nat.lt_of_lt_of_le lXb hb.size
  have xjn : xj < nX := by omega
  have HWR := Lib.hid hW; have LWW := Lib.hid lW
  have BA := chain_alloc (chain_alloc (Below.refl _ w) (.cells #[.int .i64 (xj : Int), .int .i64 tw] 116)) (.cells #[.int .u64 (uz tr.a), .int .u64 (uz tr.b), .int .u64 (uz tr.c)] 152)
  obtain ⟨tb0, tb1⟩ := two_new w (.cells #[.int .i64 (xj : Int), .int .i64 tw] 116) (.cells #[.int .u64 (uz tr.a), .int .u64 (uz tr.b), .int .u64 (uz tr.c)] 152)
  have HG0 := Lib.hid hg0
  clear hX lX hW lW hu vX lXb hB hR hb hOx hg0
  go_enter Try.func108, Try.ntmps108
  go_wp2_with fail
  obtain ⟨bt, hbt⟩ : ∃ bt, bt = w.heap.size := ⟨_, rfl⟩
  obtain ⟨bm, hbm⟩ : ∃ bm, bm = w.heap.size + 1 := ⟨_, rfl⟩
  rw [← hbm] at tb1
  rw [← hbt] at tb0
  rw [← hbm, ← hbt]
  generalize (w.alloc (.cells #[.int .i64 (xj : Int), .int .i64 tw] 116)).alloc (.cells #[.int .u64 (uz tr.a), .int .u64 (uz tr.b), .int .u64 (uz tr.c)] 152) = w2 at BA tb0 tb1 ⊢
  have B2 := Lib.hid BA
  have t0 : w2.cell? ⟨bt, 0, none⟩ = some (.int .i64 (xj : Int)) := by rw [Lib.cell_of_heap tb0]; rfl
  have t1 : w2.cell? ⟨bt, 1, none⟩ = some (.int .i64 tw) := by rw [Lib.cell_of_heap tb0]; rfl
  have TM : Hid (TC w2 bm tr) := tb1
  have lt0 := (Array.getElem?_eq_some_iff.1 tb0).1
  have lt1 := lt0
  have lg0 := Nat.lt_of_lt_of_le lg BA.size
  replace g0 := (BA.cell (p := ⟨g, 0, none⟩) lg).trans g0
  replace vx := (BA.cell (p := ⟨bX, oX + xj, none⟩) lx).trans vx
  have lx0 := Nat.lt_of_lt_of_le lx BA.size
  have HBT := Lib.hid hbt
  clear hbt hbm BA tb0 tb1 g1 g2 lg lx
  refine wp_region_noPanic ?_
  refine wp_region_held_drew (S := fun w' => w'.cell? ⟨g, 0, none⟩ = some (.slice (some ⟨bX, oX, none⟩) nX cX) ∧ w'.cell? ⟨bt, 0, none⟩ = some (.int .i64 (xj : Int)) ∧ w'.cell? ⟨bX, oX + xj, none⟩ = some (.int .u64 (uz u))) (by kernel_rfl) ⟨g0, t0, vx⟩ (fun hHeld => ?_)
  have hd := below_drew w2
  replace g0 := (hd.cell (p := ⟨g, 0, none⟩) lg0).trans g0
  replace lg0 := Nat.lt_of_lt_of_le lg0 hd.size
  replace t0 := (hd.cell (p := ⟨bt, 0, none⟩) lt0).trans t0
  replace lt0 := Nat.lt_of_lt_of_le lt0 hd.size
  replace vx := (hd.cell (p := ⟨bX, oX + xj, none⟩) lx0).trans vx
  replace lx0 := Nat.lt_of_lt_of_le lx0 hd.size
  generalize w2.drew = wq1 at hHeld hd g0 lg0 t0 lt0 vx lx0 ⊢
  have BD : Hid (Below wq1.heap.size wq1 wq1) := Below.refl _ _
  refine wpAnyH_take (i := 0) (v := ?vv3001) (by simp only [List.getElem?_toArray, List.getElem?_cons_zero]; rfl) (by kernel_rfl) (by kernel_rfl) (by kernel_rfl) (fun _ _ _ h => h) (Or.inl ⟨by rfl, ?yy3001⟩) (by assumption) ?rr3001
  case yy3001 => (intro w hSw; (try dsimp only at hSw); go_simp; first | done | with_reducible rfl)
  simp only [Act.put, List.setIfInBounds_toArray, List.set_cons_zero, List.set_cons_succ]
  refine wpAnyH_take (i := 1) (v := ?vv3002) (by simp only [List.getElem?_toArray, List.getElem?_cons_zero, List.getElem?_cons_succ]; rfl) (by kernel_rfl) (by kernel_rfl) (by kernel_rfl) (fun _ _ _ h => h) (Or.inl ⟨by rfl, ?yy3002⟩) (by assumption) ?rr3002
  case yy3002 => (intro w hSw; (try dsimp only at hSw); go_simp; first | done | with_reducible rfl)
  simp only [Act.put, List.setIfInBounds_toArray, List.set_cons_zero, List.set_cons_succ]
  refine wpAnyH_take (i := 2) (v := ?vv3003) (by simp only [List.getElem?_toArray, List.getElem?_cons_zero, List.getElem?_cons_succ]; rfl) (by kernel_rfl) (by kernel_rfl) (by kernel_rfl) (fun _ _ _ h => h) (Or.inl ⟨by rfl, ?yy3003⟩) (by assumption) ?rr3003
  case yy3003 => (intro w hSw; (try dsimp only at hSw); go_simp; first | done | with_reducible rfl)
  simp only [Act.put, List.setIfInBounds_toArray, List.set_cons_zero, List.set_cons_succ]
  refine wpAnyH_take (i := 3) (v := ?vv3004) (by simp only [List.getElem?_toArray, List.getElem?_cons_zero, List.getElem?_cons_succ]; rfl) (by kernel_rfl) (by kernel_rfl) (by kernel_rfl) (fun _ _ _ h => h) (Or.inl ⟨by rfl, ?yy3004⟩) (by assumption) ?rr3004
  case yy3004 => (intro w hSw; (try dsimp only at hSw); go_simp; first | done | with_reducible rfl)
  simp only [Act.put, List.setIfInBounds_toArray, List.set_cons_zero, List.set_cons_succ]
  refine wpAnyH_take (i := 4) (v := ?vv3005) (by simp only [List.getElem?_toArray, List.getElem?_cons_zero, List.getElem?_cons_succ]; rfl) (by kernel_rfl) (by kernel_rfl) (by kernel_rfl) (fun _ _ _ h => h) (Or.inl ⟨by rfl, ?yy3005⟩) (by assumption) ?rr3005
  case yy3005 => (intro w hSw; (try dsimp only at hSw); go_simp; first | done | with_reducible rfl)
  simp only [Act.put, List.setIfInBounds_toArray, List.set_cons_zero, List.set_cons_succ]
  refine wpAnyH_take (i := 5) (v := ?vv3006) (by simp only [List.getElem?_toArray, List.getElem?_cons_zero, List.getElem?_cons_succ]; rfl) (by kernel_rfl) (by kernel_rfl) (by kernel_rfl) (fun _ _ _ h => h) (Or.inl ⟨by rfl, ?yy3006⟩) (by assumption) ?rr3006
  case yy3006 => (intro w hSw; (try dsimp only at hSw); go_simp; first | done | with_reducible rfl)
  simp only [Act.put, List.setIfInBounds_toArray, List.set_cons_zero, List.set_cons_succ]
  refine wpAnyH_take (i := 6) (v := ?vv3007) (by simp only [List.getElem?_toArray, List.getElem?_cons_zero, List.getElem?_cons_succ]; rfl) (by kernel_rfl) (by kernel_rfl) (by kernel_rfl) (fun _ _ _ h => h) (Or.inl ⟨by rfl, ?yy3007⟩) (by assumption) ?rr3007
  case yy3007 => (intro w hSw; (try dsimp only at hSw); go_simp; first | done | with_reducible rfl)
  simp only [Act.put, List.setIfInBounds_toArray, List.set_cons_zero, List.set_cons_succ]
  refine wpAnyH_take (i := 7) (v := ?vv3008) (by simp only [List.getElem?_toArray, List.getElem?_cons_zero, List.getElem?_cons_succ]; rfl) (by kernel_rfl) (by kernel_rfl) (by kernel_rfl) (fun _ _ _ h => h) (Or.inl ⟨by rfl, ?yy3008⟩) (by assumption) ?rr3008
  case yy3008 => (intro w hSw; (try dsimp only at hSw); go_simp; first | done | with_reducible rfl)
  simp only [Act.put, List.setIfInBounds_toArray, List.set_cons_zero, List.set_cons_succ]
  refine wpAnyH_take (i := 8) (v := ?vv3009) (by simp only [List.getElem?_toArray, List.getElem?_cons_zero, List.getElem?_cons_succ]; rfl) (by kernel_rfl) (by kernel_rfl) (by kernel_rfl) (fun _ _ _ h => h) (Or.inl ⟨by rfl, ?yy3009⟩) (by assumption) ?rr3009
  case yy3009 => (intro w hSw; (try dsimp only at hSw); go_simp; first | done | with_reducible rfl)
  simp only [Act.put, List.setIfInBounds_toArray, List.set_cons_zero, List.set_cons_succ]
  refine wpAnyH_done (by kernel_rfl) ?_ _
  refine NoPanic.normal ?_
  clear hHeld
  have B3 := Lib.hid (chain B2.out (chain hd BD.out))
  replace TM := Lib.hid (TM.out.below (chain hd BD.out))
  replace t1 := (hd.cell (p := ⟨bt, 1, none⟩) lt1).trans t1
  replace lt1 := Nat.lt_of_lt_of_le lt1 hd.size
  clear hd BD t0 vx g0 lt0
  have tt := t1
  by_cases gw : 0 ≤ tw
  · have d2 : decide (0 ≤ tw) = true := decide_eq_true gw
    obtain ⟨wj, rfl⟩ : ∃ wj : Nat, tw = wj := ⟨tw.toNat, by omega⟩
    obtain ⟨bW, oW, rfl, lWb, vW⟩ := ug_at HWR.out (j := (wj : Int)) (by omega) (by rw [← LWW.out]; exact x2)
    rw [Int.toNat_natCast] at vW
    obtain ⟨y, hy⟩ : ∃ y, y = ug ws (wj : Int) := ⟨_, rfl⟩
    rw [← hy, if_pos gw] at hop
    rw [← hy] at vW
    have wb := (BB.out.trans (B3.out.mono BB.out.size))
    have vy := (wb.cell (p := ⟨bW, oW + wj, none⟩) lWb).trans vW
    have ly := Nat.lt_of_lt_of_le lWb wb.size
    have g1 := (OBB.out.kept (B3.out.block g OBB.out.lt)).cells.2.1
    have lg1 := (OBB.out.kept (B3.out.block g OBB.out.lt)).lt
    have wj0 : (0 : Int) ≤ (wj : Int) := by omega
    have wjn : wj < nW := by omega
    clear vW lWb wb tt gw hy
    go_wp2_with fail
    refine wp_region_noPanic ?_
    refine wp_region_held_drew (S := fun w' => w'.cell? ⟨g, 1, none⟩ = some (.slice (some ⟨bW, oW, none⟩) nW cW) ∧ w'.cell? ⟨bt, 1, none⟩ = some (.int .i64 (wj : Int)) ∧ w'.cell? ⟨bW, oW + wj, none⟩ = some (.int .u64 (uz y))) (by kernel_rfl) ⟨g1, t1, vy⟩ (fun hHeld => ?_)
    have hd := below_drew wq1
    replace g1 := (hd.cell (p := ⟨g, 1, none⟩) lg1).trans g1
    replace lg1 := Nat.lt_of_lt_of_le lg1 hd.size
    replace t1 := (hd.cell (p := ⟨bt, 1, none⟩) lt1).trans t1
    replace lt1 := Nat.lt_of_lt_of_le lt1 hd.size
    replace vy := (hd.cell (p := ⟨bW, oW + wj, none⟩) ly).trans vy
    replace ly := Nat.lt_of_lt_of_le ly hd.size
    generalize wq1.drew = wq1 at hHeld hd g1 lg1 t1 lt1 vy ly ⊢
    have BD : Hid (Below wq1.heap.size wq1 wq1) := Below.refl _ _
    refine wpAnyH_take (i := 0) (v := ?vv4001) (by simp only [List.getElem?_toArray, List.getElem?_cons_zero]; rfl) (by kernel_rfl) (by kernel_rfl) (by kernel_rfl) (fun _ _ _ h => h) (Or.inl ⟨by rfl, ?yy4001⟩) (by assumption) ?rr4001
    case yy4001 => (intro w hSw; (try dsimp only at hSw); go_simp; first | done | with_reducible rfl)
    simp only [Act.put, List.setIfInBounds_toArray, List.set_cons_zero, List.set_cons_succ]
    refine wpAnyH_take (i := 1) (v := ?vv4002) (by simp only [List.getElem?_toArray, List.getElem?_cons_zero, List.getElem?_cons_succ]; rfl) (by kernel_rfl) (by kernel_rfl) (by kernel_rfl) (fun _ _ _ h => h) (Or.inl ⟨by rfl, ?yy4002⟩) (by assumption) ?rr4002
    case yy4002 => (intro w hSw; (try dsimp only at hSw); go_simp; first | done | with_reducible rfl)
    simp only [Act.put, List.setIfInBounds_toArray, List.set_cons_zero, List.set_cons_succ]
    refine wpAnyH_take (i := 2) (v := ?vv4003) (by simp only [List.getElem?_toArray, List.getElem?_cons_zero, List.getElem?_cons_succ]; rfl) (by kernel_rfl) (by kernel_rfl) (by kernel_rfl) (fun _ _ _ h => h) (Or.inl ⟨by rfl, ?yy4003⟩) (by assumption) ?rr4003
    case yy4003 => (intro w hSw; (try dsimp only at hSw); go_simp; first | done | with_reducible rfl)
    simp only [Act.put, List.setIfInBounds_toArray, List.set_cons_zero, List.set_cons_succ]
    refine wpAnyH_take (i := 3) (v := ?vv4004) (by simp only [List.getElem?_toArray, List.getElem?_cons_zero, List.getElem?_cons_succ]; rfl) (by kernel_rfl) (by kernel_rfl) (by kernel_rfl) (fun _ _ _ h => h) (Or.inl ⟨by rfl, ?yy4004⟩) (by assumption) ?rr4004
    case yy4004 => (intro w hSw; (try dsimp only at hSw); go_simp; first | done | with_reducible rfl)
    simp only [Act.put, List.setIfInBounds_toArray, List.set_cons_zero, List.set_cons_succ]
    refine wpAnyH_take (i := 4) (v := ?vv4005) (by simp only [List.getElem?_toArray, List.getElem?_cons_zero, List.getElem?_cons_succ]; rfl) (by kernel_rfl) (by kernel_rfl) (by kernel_rfl) (fun _ _ _ h => h) (Or.inl ⟨by rfl, ?yy4005⟩) (by assumption) ?rr4005
    case yy4005 => (intro w hSw; (try dsimp only at hSw); go_simp; first | done | with_reducible rfl)
    simp only [Act.put, List.setIfInBounds_toArray, List.set_cons_zero, List.set_cons_succ]
    refine wpAnyH_take (i := 5) (v := ?vv4006) (by simp only [List.getElem?_toArray, List.getElem?_cons_zero, List.getElem?_cons_succ]; rfl) (by kernel_rfl) (by kernel_rfl) (by kernel_rfl) (fun _ _ _ h => h) (Or.inl ⟨by rfl, ?yy4006⟩) (by assumption) ?rr4006
    case yy4006 => (intro w hSw; (try dsimp only at hSw); go_simp; first | done | with_reducible rfl)
    simp only [Act.put, List.setIfInBounds_toArray, List.set_cons_zero, List.set_cons_succ]
    refine wpAnyH_take (i := 6) (v := ?vv4007) (by simp only [List.getElem?_toArray, List.getElem?_cons_zero, List.getElem?_cons_succ]; rfl) (by kernel_rfl) (by kernel_rfl) (by kernel_rfl) (fun _ _ _ h => h) (Or.inl ⟨by rfl, ?yy4007⟩) (by assumption) ?rr4007
    case yy4007 => (intro w hSw; (try dsimp only at hSw); go_simp; first | done | with_reducible rfl)
    simp only [Act.put, List.setIfInBounds_toArray, List.set_cons_zero, List.set_cons_succ]
    refine wpAnyH_take (i := 7) (v := ?vv4008) (by simp only [List.getElem?_toArray, List.getElem?_cons_zero, List.getElem?_cons_succ]; rfl) (by kernel_rfl) (by kernel_rfl) (by kernel_rfl) (fun _ _ _ h => h) (Or.inl ⟨by rfl, ?yy4008⟩) (by assumption) ?rr4008
    case yy4008 => (intro w hSw; (try dsimp only at hSw); go_simp; first | done | with_reducible rfl)
    simp only [Act.put, List.setIfInBounds_toArray, List.set_cons_zero, List.set_cons_succ]
    refine wpAnyH_take (i := 8) (v := ?vv4009) (by simp only [List.getElem?_toArray, List.getElem?_cons_zero, List.getElem?_cons_succ]; rfl) (by kernel_rfl) (by kernel_rfl) (by kernel_rfl) (fun _ _ _ h => h) (Or.inl ⟨by rfl, ?yy4009⟩) (by assumption) ?rr4009
    case yy4009 => (intro w hSw; (try dsimp only at hSw); go_simp; first | done | with_reducible rfl)
    simp only [Act.put, List.setIfInBounds_toArray, List.set_cons_zero, List.set_cons_succ]
    refine wpAnyH_done (by kernel_rfl) ?_ _
    refine NoPanic.normal ?_
    clear hHeld
    replace B3 := Lib.hid (chain B3.out (chain hd BD.out))
    replace TM := Lib.hid (TM.out.below (chain hd BD.out))
    clear hd BD t1 vy g1
    obtain ⟨ov, hov⟩ : ∃ ov, ov = openU u y tr := ⟨_, rfl⟩
    have CO : Hid (∀ w, Calls Try.prog 111 #[.int .u64 (uz u), .int .u64 (uz y), .agg #[.int .u64 (uz tr.a), .int .u64 (uz tr.b), .int .u64 (uz tr.c)]] w fun e w' => e = .returned (.agg #[.int .u64 (uz ov.d), .int .u64 (uz ov.e)]) ∧ Below w.heap.size w w') := fun w => by rw [hov]; exact open12 u y tr w
    have OPK : Hid (op k = ov) := by show _ = _; rw [hop, hov]
    have m0 := TM.out.cells.1
    have m1 := TM.out.cells.2.1
    have m2 := TM.out.cells.2.2
    clear hov hop
    go_wp2_with fail
    refine (CO.out _).mono ?_
    rintro e w5 ⟨rfl, hb5⟩
    have B5 := Lib.hid (chain B3.out hb5)
    clear hb5 m0 m1 m2
    go_wp2_with fail
    have BA := chain_alloc B5.out (.cells #[.int .u64 (uz ov.d), .int .u64 (uz ov.e)] 156)
    have ZA := OC.new w5 ov
    obtain ⟨zo, hzo⟩ : ∃ zo, zo = w5.heap.size := ⟨_, rfl⟩
    have hzg : zo ≠ g := by have := OBB.out.lt; have := B5.out.size; omega
    rw [← hzo] at ZA ⊢
    generalize w5.alloc (.cells #[.int .u64 (uz ov.d), .int .u64 (uz ov.e)] 156) = w6 at BA ZA ⊢
    have BW := Lib.hid BA
    have BS0 := Lib.hid BB.out.size
    have BS := Lib.hid (Nat.le_trans BB.out.size BA.size)
    have O6 := Lib.hid (own_belowE OR.out BA)
    have og := OBB.out.kept (BA.block g OBB.out.lt)
    have OG : Hid (OpB w6 g _ _ _ _ _ _ (.slice A (2 * k) cc)) := og
    have g2 := og.cells.2.2
    have l2 := og.lt
    have lg6 := Lib.hid og.lt
    obtain ⟨z0, z1⟩ := ZA.cells
    have lz := ZA.lt
    have lz0 := Lib.hid ZA.lt
    have ZO : Hid (OC w6 zo ov) := ZA
    have zg : zo ≠ g := hzg
    clear BA ZA og hzo hzg B5
    refine wp_region_noPanic ?_
    refine wp_region_held_drew (S := fun w' => w'.cell? ⟨zo, 0, none⟩ = some (.int .u64 (uz ov.d)) ∧ w'.cell? ⟨zo, 1, none⟩ = some (.int .u64 (uz ov.e))) (by kernel_rfl) ⟨z0, z1⟩ (fun hHeld => ?_)
    have hd := below_drew w6
    replace z0 := (hd.cell (p := ⟨zo, 0, none⟩) lz).trans z0
    replace z1 := (hd.cell (p := ⟨zo, 1, none⟩) lz).trans z1
    replace lz := Nat.lt_of_lt_of_le lz hd.size
    replace g2 := (hd.cell (p := ⟨g, 2, none⟩) l2).trans g2
    replace l2 := Nat.lt_of_lt_of_le l2 hd.size
    replace ZO := Lib.hid (show OC _ zo ov from (hd.block zo lz0.out).trans (oc_heap ZO.out))
    replace OG := Lib.hid (show OpB _ g _ _ _ _ _ _ (.slice A (2 * k) cc) from (hd.block g lg6.out).trans (opb_heap OG.out))
    generalize w6.drew = wq1 at hHeld hd ZO OG z0 lz z1 g2 l2 ⊢
    have BD : Hid (Below wq1.heap.size wq1 wq1) := Below.refl _ _
    refine wpAnyH_take (i := 0) (v := ?vv5001) (by simp only [List.getElem?_toArray, List.getElem?_cons_zero]; rfl) (by kernel_rfl) (by kernel_rfl) (by kernel_rfl) (fun _ _ _ h => h) (Or.inl ⟨by rfl, ?yy5001⟩) (by assumption) ?rr5001
    case yy5001 => (intro w hSw; (try dsimp only at hSw); go_simp; first | done | with_reducible rfl)
    simp only [Act.put, List.setIfInBounds_toArray, List.set_cons_zero, List.set_cons_succ]
    refine wpAnyH_take (i := 1) (v := ?vv5002) (by simp only [List.getElem?_toArray, List.getElem?_cons_zero, List.getElem?_cons_succ]; rfl) (by kernel_rfl) (by kernel_rfl) (by kernel_rfl) (fun _ _ _ h => h) (Or.inl ⟨by rfl, ?yy5002⟩) (by assumption) ?rr5002
    case yy5002 => (intro w hSw; (try dsimp only at hSw); go_simp; first | done | with_reducible rfl)
    simp only [Act.put, List.setIfInBounds_toArray, List.set_cons_zero, List.set_cons_succ]
    refine wpAnyH_take (i := 2) (v := ?vv5003) (by simp only [List.getElem?_toArray, List.getElem?_cons_zero, List.getElem?_cons_succ]; rfl) (by kernel_rfl) (by kernel_rfl) (by kernel_rfl) (fun _ _ _ h => h) (Or.inl ⟨by rfl, ?yy5003⟩) (by assumption) ?rr5003
    case yy5003 => (intro w hSw; (try dsimp only at hSw); go_simp; first | done | with_reducible rfl)
    simp only [Act.put, List.setIfInBounds_toArray, List.set_cons_zero, List.set_cons_succ]
    refine wpAnyH_take (i := 3) (v := ?vv5004) (by simp only [List.getElem?_toArray, List.getElem?_cons_zero, List.getElem?_cons_succ]; rfl) (by kernel_rfl) (by kernel_rfl) (by kernel_rfl) (fun _ _ _ h => h) (Or.inl ⟨by rfl, ?yy5004⟩) (by assumption) ?rr5004
    case yy5004 => (intro w hSw; (try dsimp only at hSw); go_simp; first | done | with_reducible rfl)
    simp only [Act.put, List.setIfInBounds_toArray, List.set_cons_zero, List.set_cons_succ]
    refine wpAnyH_take (i := 5) (v := ?vv5005) (by simp only [List.getElem?_toArray, List.getElem?_cons_zero, List.getElem?_cons_succ]; rfl) (by kernel_rfl) (by kernel_rfl) (by kernel_rfl) (fun _ _ _ h => h) (Or.inl ⟨by rfl, ?yy5005⟩) (by assumption) ?rr5005
    case yy5005 => (intro w hSw; (try dsimp only at hSw); go_simp; first | done | with_reducible rfl)
    simp only [Act.put, List.setIfInBounds_toArray, List.set_cons_zero, List.set_cons_succ]
    refine wpAnyH_take (i := 6) (v := ?vv5006) (by simp only [List.getElem?_toArray, List.getElem?_cons_zero, List.getElem?_cons_succ]; rfl) (by kernel_rfl) (by kernel_rfl) (by kernel_rfl) (fun _ _ _ h => h) (Or.inl ⟨by rfl, ?yy5006⟩) (by assumption) ?rr5006
    case yy5006 => (intro w hSw; (try dsimp only at hSw); go_simp; first | done | with_reducible rfl)
    simp only [Act.put, List.setIfInBounds_toArray, List.set_cons_zero, List.set_cons_succ]
    refine wpAnyH_take (i := 7) (v := ?vv5007) (by simp only [List.getElem?_toArray, List.getElem?_cons_zero, List.getElem?_cons_succ]; rfl) (by kernel_rfl) (by kernel_rfl) (by kernel_rfl) (fun _ _ _ h => h) (Or.inl ⟨by rfl, ?yy5007⟩) (by assumption) ?rr5007
    case yy5007 => (intro w hSw; (try dsimp only at hSw); go_simp; first | done | with_reducible rfl)
    simp only [Act.put, List.setIfInBounds_toArray, List.set_cons_zero, List.set_cons_succ]
    refine wpAnyH_take (i := 8) (v := ?vv5008) (by simp only [List.getElem?_toArray, List.getElem?_cons_zero, List.getElem?_cons_succ]; rfl) (by kernel_rfl) (by kernel_rfl) (by kernel_rfl) (fun _ _ _ h => h) (Or.inl ⟨by rfl, ?yy5008⟩) (by assumption) ?rr5008
    case yy5008 => (intro w hSw; (try dsimp only at hSw); go_simp; first | done | with_reducible rfl)
    simp only [Act.put, List.setIfInBounds_toArray, List.set_cons_zero, List.set_cons_succ]
    refine wpAnyH_ready (rs := [4, 9]) (by kernel_rfl) (by simp) ?_
    refine AllReadyH.cons (by simp only [List.getElem?_toArray, List.getElem?_cons_zero, List.getElem?_cons_succ]; rfl) (fun K hK => ?_) ?_
    · skip
      have zc : wq1.cell? ⟨g, 2, none⟩ = some (.slice A (2 * k) cc) := (BD.out.cell (p := ⟨g, 2, none⟩) l2).trans g2
      go_simp
      clear zc
      clear hHeld
      refine hK.out _ _ ⟨(BD.out.cell (p := ⟨zo, 0, none⟩) lz).trans z0, (BD.out.cell (p := ⟨zo, 1, none⟩) lz).trans z1⟩ (fun hHeld => ?_)
      clear hK K
      try simp only [Act.put, List.setIfInBounds_toArray, List.set_cons_zero, List.set_cons_succ]
      refine wpAnyH_ready (rs := [9]) (by kernel_rfl) (by simp) ?_
      refine AllReadyH.cons (by simp only [List.getElem?_toArray, List.getElem?_cons_zero, List.getElem?_cons_succ]; rfl) (fun K hK => ?_) ?_
      · skip
        go_simp
        clear hHeld
        obtain ⟨nb, hnb⟩ : ∃ b, b = wq1.heap.size := ⟨_, rfl⟩
        have RN : Hid ((wq1.alloc (.cells #[.int .u64 (uz ov.d), .int .u64 (uz ov.e)] 27)).heap[nb]? = some (.cells #[.int .u64 (uz ov.d), .int .u64 (uz ov.e)] 27)) := by rw [hnb]; exact heap_alloc_new wq1 _
        rw [← hnb]
        clear hnb
        replace BD := Lib.hid (chain_alloc BD.out (.cells #[.int .u64 (uz ov.d), .int .u64 (uz ov.e)] 27))
        refine hK.out _ _ ⟨(BD.out.cell (p := ⟨zo, 0, none⟩) lz).trans z0, (BD.out.cell (p := ⟨zo, 1, none⟩) lz).trans z1⟩ (fun hHeld => ?_)
        clear hK K
        try simp only [Act.put, List.setIfInBounds_toArray, List.set_cons_zero, List.set_cons_succ]
        generalize wq1.alloc (.cells #[.int .u64 (uz ov.d), .int .u64 (uz ov.e)] 27) = wq3 at hHeld RN BD ⊢
        refine wpAnyH_ready (rs := [10]) (by kernel_rfl) (by simp) ?_
        refine AllReadyH.cons (by simp only [List.getElem?_toArray, List.getElem?_cons_zero, List.getElem?_cons_succ]; rfl) (fun K hK => ?_) ?_
        · skip
          obtain ⟨v5, wq4, run5, o5, gr5, wh5⟩ := u_two_run (own_belowE O6.out (chain hd BD.out)) nb ov.d ov.e RN.out (by omega) (Nat.le_trans BS.out (chain hd BD.out).size)
          refine step_append_run (by kernel_rfl) (.tmp 39) (.tmp 44) 28 28 (by kernel_rfl) (.slice A (2 * k) cc) (.slice (some ⟨nb, 0, none⟩) 2 2) (by kernel_rfl) (by kernel_rfl) v5 run5 ?_
          have e0 := gr5.block zo (Nat.lt_of_lt_of_le lz BD.out.size) (own_ne_type (own_belowE O6.out (chain hd BD.out)) ((BD.out.block zo lz).trans (oc_heap ZO.out)) (by decide))
          refine hK.out _ _ ⟨(World.cell?_of_block (a := ⟨zo, 0, none⟩) e0).trans ((BD.out.cell (p := ⟨zo, 0, none⟩) lz).trans z0), (World.cell?_of_block (a := ⟨zo, 1, none⟩) e0).trans ((BD.out.cell (p := ⟨zo, 1, none⟩) lz).trans z1)⟩ (fun hHeld => ?_)
          clear hK K
          try simp only [Act.put, List.setIfInBounds_toArray, List.set_cons_zero, List.set_cons_succ]
          obtain ⟨A5, c5, rfl, hd1, hd2⟩ := own_rg ucells_len (by decide) o5
          clear hd1 hd2
          have eg := gr5.block g (Nat.lt_of_lt_of_le l2 BD.out.size) (own_ne_type (own_belowE O6.out (chain hd BD.out)) ((BD.out.block g l2).trans (opb_heap OG.out)) (by decide))
          have OG5 := Lib.hid (eg.trans ((BD.out.block g l2).trans (opb_heap OG.out)))
          have Z05 := Lib.hid ((World.cell?_of_block (a := ⟨zo, 0, none⟩) e0).trans ((BD.out.cell (p := ⟨zo, 0, none⟩) lz).trans z0))
          have Z15 := Lib.hid ((World.cell?_of_block (a := ⟨zo, 1, none⟩) e0).trans ((BD.out.cell (p := ⟨zo, 1, none⟩) lz).trans z1))
          have KE := Lib.hid (open_keep (g := g) BW.out BB.out (chain hd BD.out) gr5 OR.out BS0.out)
          have OWN5 := Lib.hid o5
          have WH5 := Lib.hid (open_wh OX.out wh5 (Nat.le_trans BW.out.size (chain hd BD.out).size))
          clear e0 eg o5 gr5 wh5 run5
          refine wpAnyH_take (i := 11) (v := ?vv5009) (by simp only [List.getElem?_toArray, List.getElem?_cons_zero, List.getElem?_cons_succ]; rfl) (by kernel_rfl) (by kernel_rfl) (by kernel_rfl) (fun _ _ _ h => h) (Or.inl ⟨by rfl, ?yy5009⟩) (by assumption) ?rr5009
          case yy5009 => (intro w hSw; (try dsimp only at hSw); go_simp; first | done | with_reducible rfl)
          simp only [Act.put, List.setIfInBounds_toArray, List.set_cons_zero, List.set_cons_succ]
          refine wpAnyH_take (i := 12) (v := ?vv5010) (by simp only [List.getElem?_toArray, List.getElem?_cons_zero, List.getElem?_cons_succ]; rfl) (by kernel_rfl) (by kernel_rfl) (by kernel_rfl) (fun _ _ _ h => h) (Or.inl ⟨by rfl, ?yy5010⟩) (by assumption) ?rr5010
          case yy5010 => (intro w hSw; (try dsimp only at hSw); go_simp; first | done | with_reducible rfl)
          simp only [Act.put, List.setIfInBounds_toArray, List.set_cons_zero, List.set_cons_succ]
          refine wpAnyH_ready (rs := [13]) (by kernel_rfl) (by simp) ?_
          refine AllReadyH.cons (by simp only [List.getElem?_toArray, List.getElem?_cons_zero, List.getElem?_cons_succ]; rfl) (fun K hK => ?_) ?_
          · skip
            have gc := (OpB.cells (show OpB wq4 g _ _ _ _ _ _ _ from OG5.out)).2.2
            have gf := OpB.frozen (show OpB wq4 g _ _ _ _ _ _ _ from OG5.out) 2
            go_simp
            refine hK.out _ _ ⟨(World.cell?_of_block (Below.heap_setCell _ _ _ _ zg)).trans Z05.out, (World.cell?_of_block (Below.heap_setCell _ _ _ _ zg)).trans Z15.out⟩ (fun hHeld => ?_)
            clear hK K gc gf
            try simp only [Act.put, List.setIfInBounds_toArray, List.set_cons_zero, List.set_cons_succ]
            refine wpAnyH_done (by kernel_rfl) ?_ _
            refine NoPanic.normal ?_
            clear hHeld
            go_wp2_with fail
            go_end0
            have q1 : OpB wq4 g _ _ _ _ _ _ (.slice A (2 * k) cc) := OG5.out
            have q2 := OpB.set q1 (.slice A5 (2 * k + 2) c5)
            refine ⟨rfl, ?_⟩
            exact open_end q2 OWN5.out q1 KE.out WH5.out HG0.out OPK.out BB.out
          exact AllReadyH.nil
        exact AllReadyH.nil
      exact AllReadyH.nil
    refine AllReadyH.cons (by simp only [List.getElem?_toArray, List.getElem?_cons_zero, List.getElem?_cons_succ]; rfl) (fun K hK => ?_) ?_
    · skip
      go_simp
      clear hHeld
      obtain ⟨nb, hnb⟩ : ∃ b, b = wq1.heap.size := ⟨_, rfl⟩
      have RN : Hid ((wq1.alloc (.cells #[.int .u64 (uz ov.d), .int .u64 (uz ov.e)] 27)).heap[nb]? = some (.cells #[.int .u64 (uz ov.d), .int .u64 (uz ov.e)] 27)) := by rw [hnb]; exact heap_alloc_new wq1 _
      rw [← hnb]
      clear hnb
      replace BD := Lib.hid (chain_alloc BD.out (.cells #[.int .u64 (uz ov.d), .int .u64 (uz ov.e)] 27))
      refine hK.out _ _ ⟨(BD.out.cell (p := ⟨zo, 0, none⟩) lz).trans z0, (BD.out.cell (p := ⟨zo, 1, none⟩) lz).trans z1⟩ (fun hHeld => ?_)
      clear hK K
      try simp only [Act.put, List.setIfInBounds_toArray, List.set_cons_zero, List.set_cons_succ]
      generalize wq1.alloc (.cells #[.int .u64 (uz ov.d), .int .u64 (uz ov.e)] 27) = wq6 at hHeld RN BD ⊢
      refine wpAnyH_ready (rs := [4]) (by kernel_rfl) (by simp) ?_
      refine AllReadyH.cons (by simp only [List.getElem?_toArray, List.getElem?_cons_zero, List.getElem?_cons_succ]; rfl) (fun K hK => ?_) ?_
      · skip
        have zc : wq6.cell? ⟨g, 2, none⟩ = some (.slice A (2 * k) cc) := (BD.out.cell (p := ⟨g, 2, none⟩) l2).trans g2
        go_simp
        clear zc
        clear hHeld
        refine hK.out _ _ ⟨(BD.out.cell (p := ⟨zo, 0, none⟩) lz).trans z0, (BD.out.cell (p := ⟨zo, 1, none⟩) lz).trans z1⟩ (fun hHeld => ?_)
        clear hK K
        try simp only [Act.put, List.setIfInBounds_toArray, List.set_cons_zero, List.set_cons_succ]
        refine wpAnyH_ready (rs := [10]) (by kernel_rfl) (by simp) ?_
        refine AllReadyH.cons (by simp only [List.getElem?_toArray, List.getElem?_cons_zero, List.getElem?_cons_succ]; rfl) (fun K hK => ?_) ?_
        · skip
          obtain ⟨v5, wq8, run5, o5, gr5, wh5⟩ := u_two_run (own_belowE O6.out (chain hd BD.out)) nb ov.d ov.e RN.out (by omega) (Nat.le_trans BS.out (chain hd BD.out).size)
          refine step_append_run (by kernel_rfl) (.tmp 39) (.tmp 44) 28 28 (by kernel_rfl) (.slice A (2 * k) cc) (.slice (some ⟨nb, 0, none⟩) 2 2) (by kernel_rfl) (by kernel_rfl) v5 run5 ?_
          have e0 := gr5.block zo (Nat.lt_of_lt_of_le lz BD.out.size) (own_ne_type (own_belowE O6.out (chain hd BD.out)) ((BD.out.block zo lz).trans (oc_heap ZO.out)) (by decide))
          refine hK.out _ _ ⟨(World.cell?_of_block (a := ⟨zo, 0, none⟩) e0).trans ((BD.out.cell (p := ⟨zo, 0, none⟩) lz).trans z0), (World.cell?_of_block (a := ⟨zo, 1, none⟩) e0).trans ((BD.out.cell (p := ⟨zo, 1, none⟩) lz).trans z1)⟩ (fun hHeld => ?_)
          clear hK K
          try simp only [Act.put, List.setIfInBounds_toArray, List.set_cons_zero, List.set_cons_succ]
          obtain ⟨A5, c5, rfl, hd1, hd2⟩ := own_rg ucells_len (by decide) o5
          clear hd1 hd2
          have eg := gr5.block g (Nat.lt_of_lt_of_le l2 BD.out.size) (own_ne_type (own_belowE O6.out (chain hd BD.out)) ((BD.out.block g l2).trans (opb_heap OG.out)) (by decide))
          have OG5 := Lib.hid (eg.trans ((BD.out.block g l2).trans (opb_heap OG.out)))
          have Z05 := Lib.hid ((World.cell?_of_block (a := ⟨zo, 0, none⟩) e0).trans ((BD.out.cell (p := ⟨zo, 0, none⟩) lz).trans z0))
          have Z15 := Lib.hid ((World.cell?_of_block (a := ⟨zo, 1, none⟩) e0).trans ((BD.out.cell (p := ⟨zo, 1, none⟩) lz).trans z1))
          have KE := Lib.hid (open_keep (g := g) BW.out BB.out (chain hd BD.out) gr5 OR.out BS0.out)
          have OWN5 := Lib.hid o5
          have WH5 := Lib.hid (open_wh OX.out wh5 (Nat.le_trans BW.out.size (chain hd BD.out).size))
          clear e0 eg o5 gr5 wh5 run5
          refine wpAnyH_take (i := 11) (v := ?vv5011) (by simp only [List.getElem?_toArray, List.getElem?_cons_zero, List.getElem?_cons_succ]; rfl) (by kernel_rfl) (by kernel_rfl) (by kernel_rfl) (fun _ _ _ h => h) (Or.inl ⟨by rfl, ?yy5011⟩) (by assumption) ?rr5011
          case yy5011 => (intro w hSw; (try dsimp only at hSw); go_simp; first | done | with_reducible rfl)
          simp only [Act.put, List.setIfInBounds_toArray, List.set_cons_zero, List.set_cons_succ]
          refine wpAnyH_take (i := 12) (v := ?vv5012) (by simp only [List.getElem?_toArray, List.getElem?_cons_zero, List.getElem?_cons_succ]; rfl) (by kernel_rfl) (by kernel_rfl) (by kernel_rfl) (fun _ _ _ h => h) (Or.inl ⟨by rfl, ?yy5012⟩) (by assumption) ?rr5012
          case yy5012 => (intro w hSw; (try dsimp only at hSw); go_simp; first | done | with_reducible rfl)
          simp only [Act.put, List.setIfInBounds_toArray, List.set_cons_zero, List.set_cons_succ]
          refine wpAnyH_ready (rs := [13]) (by kernel_rfl) (by simp) ?_
          refine AllReadyH.cons (by simp only [List.getElem?_toArray, List.getElem?_cons_zero, List.getElem?_cons_succ]; rfl) (fun K hK => ?_) ?_
          · skip
            have gc := (OpB.cells (show OpB wq8 g _ _ _ _ _ _ _ from OG5.out)).2.2
            have gf := OpB.frozen (show OpB wq8 g _ _ _ _ _ _ _ from OG5.out) 2
            go_simp
            refine hK.out _ _ ⟨(World.cell?_of_block (Below.heap_setCell _ _ _ _ zg)).trans Z05.out, (World.cell?_of_block (Below.heap_setCell _ _ _ _ zg)).trans Z15.out⟩ (fun hHeld => ?_)
            clear hK K gc gf
            try simp only [Act.put, List.setIfInBounds_toArray, List.set_cons_zero, List.set_cons_succ]
            refine wpAnyH_done (by kernel_rfl) ?_ _
            refine NoPanic.normal ?_
            clear hHeld
            go_wp2_with fail
            go_end0
            have q1 : OpB wq8 g _ _ _ _ _ _ (.slice A (2 * k) cc) := OG5.out
            have q2 := OpB.set q1 (.slice A5 (2 * k + 2) c5)
            refine ⟨rfl, ?_⟩
            exact open_end q2 OWN5.out q1 KE.out WH5.out HG0.out OPK.out BB.out
          exact AllReadyH.nil
        exact AllReadyH.nil
      exact AllReadyH.nil
    exact AllReadyH.nil
  · have d2 : decide (0 ≤ tw) = false := decide_eq_false gw
    rw [if_neg gw] at hop
    clear gw tt
    obtain ⟨ov, hov⟩ : ∃ ov, ov = openU u u tr := ⟨_, rfl⟩
    have CO : Hid (∀ w, Calls Try.prog 111 #[.int .u64 (uz u), .int .u64 (uz u), .agg #[.int .u64 (uz tr.a), .int .u64 (uz tr.b), .int .u64 (uz tr.c)]] w fun e w' => e = .returned (.agg #[.int .u64 (uz ov.d), .int .u64 (uz ov.e)]) ∧ Below w.heap.size w w') := fun w => by rw [hov]; exact open12 u u tr w
    have OPK : Hid (op k = ov) := by show _ = _; rw [hop, hov]
    have m0 := TM.out.cells.1
    have m1 := TM.out.cells.2.1
    have m2 := TM.out.cells.2.2
    clear hov hop
    go_wp2_with fail
    refine (CO.out _).mono ?_
    rintro e w5 ⟨rfl, hb5⟩
    have B5 := Lib.hid (chain B3.out hb5)
    clear hb5 m0 m1 m2
    go_wp2_with fail
    have BA := chain_alloc B5.out (.cells #[.int .u64 (uz ov.d), .int .u64 (uz ov.e)] 156)
    have ZA := OC.new w5 ov
    obtain ⟨zo, hzo⟩ : ∃ zo, zo = w5.heap.size := ⟨_, rfl⟩
    have hzg : zo ≠ g := by have := OBB.out.lt; have := B5.out.size; omega
    rw [← hzo] at ZA ⊢
    generalize w5.alloc (.cells #[.int .u64 (uz ov.d), .int .u64 (uz ov.e)] 156) = w6 at BA ZA ⊢
    have BW := Lib.hid BA
    have BS0 := Lib.hid BB.out.size
    have BS := Lib.hid (Nat.le_trans BB.out.size BA.size)
    have O6 := Lib.hid (own_belowE OR.out BA)
    have og := OBB.out.kept (BA.block g OBB.out.lt)
    have OG : Hid (OpB w6 g _ _ _ _ _ _ (.slice A (2 * k) cc)) := og
    have g2 := og.cells.2.2
    have l2 := og.lt
    have lg6 := Lib.hid og.lt
    obtain ⟨z0, z1⟩ := ZA.cells
    have lz := ZA.lt
    have lz0 := Lib.hid ZA.lt
    have ZO : Hid (OC w6 zo ov) := ZA
    have zg : zo ≠ g := hzg
    clear BA ZA og hzo hzg B5
    refine wp_region_noPanic ?_
    refine wp_region_held_drew (S := fun w' => w'.cell? ⟨zo, 0, none⟩ = some (.int .u64 (uz ov.d)) ∧ w'.cell? ⟨zo, 1, none⟩ = some (.int .u64 (uz ov.e))) (by kernel_rfl) ⟨z0, z1⟩ (fun hHeld => ?_)
    have hd := below_drew w6
    replace z0 := (hd.cell (p := ⟨zo, 0, none⟩) lz).trans z0
    replace z1 := (hd.cell (p := ⟨zo, 1, none⟩) lz).trans z1
    replace lz := Nat.lt_of_lt_of_le lz hd.size
    replace g2 := (hd.cell (p := ⟨g, 2, none⟩) l2).trans g2
    replace l2 := Nat.lt_of_lt_of_le l2 hd.size
    replace ZO := Lib.hid (show OC _ zo ov from (hd.block zo lz0.out).trans (oc_heap ZO.out))
    replace OG := Lib.hid (show OpB _ g _ _ _ _ _ _ (.slice A (2 * k) cc) from (hd.block g lg6.out).trans (opb_heap OG.out))
    generalize w6.drew = wq1 at hHeld hd ZO OG z0 lz z1 g2 l2 ⊢
    have BD : Hid (Below wq1.heap.size wq1 wq1) := Below.refl _ _
    refine wpAnyH_take (i := 0) (v := ?vv6001) (by simp only [List.getElem?_toArray, List.getElem?_cons_zero]; rfl) (by kernel_rfl) (by kernel_rfl) (by kernel_rfl) (fun _ _ _ h => h) (Or.inl ⟨by rfl, ?yy6001⟩) (by assumption) ?rr6001
    case yy6001 => (intro w hSw; (try dsimp only at hSw); go_simp; first | done | with_reducible rfl)
    simp only [Act.put, List.setIfInBounds_toArray, List.set_cons_zero, List.set_cons_succ]
    refine wpAnyH_take (i := 1) (v := ?vv6002) (by simp only [List.getElem?_toArray, List.getElem?_cons_zero, List.getElem?_cons_succ]; rfl) (by kernel_rfl) (by kernel_rfl) (by kernel_rfl) (fun _ _ _ h => h) (Or.inl ⟨by rfl, ?yy6002⟩) (by assumption) ?rr6002
    case yy6002 => (intro w hSw; (try dsimp only at hSw); go_simp; first | done | with_reducible rfl)
    simp only [Act.put, List.setIfInBounds_toArray, List.set_cons_zero, List.set_cons_succ]
    refine wpAnyH_take (i := 2) (v := ?vv6003) (by simp only [List.getElem?_toArray, List.getElem?_cons_zero, List.getElem?_cons_succ]; rfl) (by kernel_rfl) (by kernel_rfl) (by kernel_rfl) (fun _ _ _ h => h) (Or.inl ⟨by rfl, ?yy6003⟩) (by assumption) ?rr6003
    case yy6003 => (intro w hSw; (try dsimp only at hSw); go_simp; first | done | with_reducible rfl)
    simp only [Act.put, List.setIfInBounds_toArray, List.set_cons_zero, List.set_cons_succ]
    refine wpAnyH_take (i := 3) (v := ?vv6004) (by simp only [List.getElem?_toArray, List.getElem?_cons_zero, List.getElem?_cons_succ]; rfl) (by kernel_rfl) (by kernel_rfl) (by kernel_rfl) (fun _ _ _ h => h) (Or.inl ⟨by rfl, ?yy6004⟩) (by assumption) ?rr6004
    case yy6004 => (intro w hSw; (try dsimp only at hSw); go_simp; first | done | with_reducible rfl)
    simp only [Act.put, List.setIfInBounds_toArray, List.set_cons_zero, List.set_cons_succ]
    refine wpAnyH_take (i := 5) (v := ?vv6005) (by simp only [List.getElem?_toArray, List.getElem?_cons_zero, List.getElem?_cons_succ]; rfl) (by kernel_rfl) (by kernel_rfl) (by kernel_rfl) (fun _ _ _ h => h) (Or.inl ⟨by rfl, ?yy6005⟩) (by assumption) ?rr6005
    case yy6005 => (intro w hSw; (try dsimp only at hSw); go_simp; first | done | with_reducible rfl)
    simp only [Act.put, List.setIfInBounds_toArray, List.set_cons_zero, List.set_cons_succ]
    refine wpAnyH_take (i := 6) (v := ?vv6006) (by simp only [List.getElem?_toArray, List.getElem?_cons_zero, List.getElem?_cons_succ]; rfl) (by kernel_rfl) (by kernel_rfl) (by kernel_rfl) (fun _ _ _ h => h) (Or.inl ⟨by rfl, ?yy6006⟩) (by assumption) ?rr6006
    case yy6006 => (intro w hSw; (try dsimp only at hSw); go_simp; first | done | with_reducible rfl)
    simp only [Act.put, List.setIfInBounds_toArray, List.set_cons_zero, List.set_cons_succ]
    refine wpAnyH_take (i := 7) (v := ?vv6007) (by simp only [List.getElem?_toArray, List.getElem?_cons_zero, List.getElem?_cons_succ]; rfl) (by kernel_rfl) (by kernel_rfl) (by kernel_rfl) (fun _ _ _ h => h) (Or.inl ⟨by rfl, ?yy6007⟩) (by assumption) ?rr6007
    case yy6007 => (intro w hSw; (try dsimp only at hSw); go_simp; first | done | with_reducible rfl)
    simp only [Act.put, List.setIfInBounds_toArray, List.set_cons_zero, List.set_cons_succ]
    refine wpAnyH_take (i := 8) (v := ?vv6008) (by simp only [List.getElem?_toArray, List.getElem?_cons_zero, List.getElem?_cons_succ]; rfl) (by kernel_rfl) (by kernel_rfl) (by kernel_rfl) (fun _ _ _ h => h) (Or.inl ⟨by rfl, ?yy6008⟩) (by assumption) ?rr6008
    case yy6008 => (intro w hSw; (try dsimp only at hSw); go_simp; first | done | with_reducible rfl)
    simp only [Act.put, List.setIfInBounds_toArray, List.set_cons_zero, List.set_cons_succ]
    refine wpAnyH_ready (rs := [4, 9]) (by kernel_rfl) (by simp) ?_
    refine AllReadyH.cons (by simp only [List.getElem?_toArray, List.getElem?_cons_zero, List.getElem?_cons_succ]; rfl) (fun K hK => ?_) ?_
    · skip
      have zc : wq1.cell? ⟨g, 2, none⟩ = some (.slice A (2 * k) cc) := (BD.out.cell (p := ⟨g, 2, none⟩) l2).trans g2
      go_simp
      clear zc
      clear hHeld
      refine hK.out _ _ ⟨(BD.out.cell (p := ⟨zo, 0, none⟩) lz).trans z0, (BD.out.cell (p := ⟨zo, 1, none⟩) lz).trans z1⟩ (fun hHeld => ?_)
      clear hK K
      try simp only [Act.put, List.setIfInBounds_toArray, List.set_cons_zero, List.set_cons_succ]
      refine wpAnyH_ready (rs := [9]) (by kernel_rfl) (by simp) ?_
      refine AllReadyH.cons (by simp only [List.getElem?_toArray, List.getElem?_cons_zero, List.getElem?_cons_succ]; rfl) (fun K hK => ?_) ?_
      · skip
        go_simp
        clear hHeld
        obtain ⟨nb, hnb⟩ : ∃ b, b = wq1.heap.size := ⟨_, rfl⟩
        have RN : Hid ((wq1.alloc (.cells #[.int .u64 (uz ov.d), .int .u64 (uz ov.e)] 27)).heap[nb]? = some (.cells #[.int .u64 (uz ov.d), .int .u64 (uz ov.e)] 27)) := by rw [hnb]; exact heap_alloc_new wq1 _
        rw [← hnb]
        clear hnb
        replace BD := Lib.hid (chain_alloc BD.out (.cells #[.int .u64 (uz ov.d), .int .u64 (uz ov.e)] 27))
        refine hK.out _ _ ⟨(BD.out.cell (p := ⟨zo, 0, none⟩) lz).trans z0, (BD.out.cell (p := ⟨zo, 1, none⟩) lz).trans z1⟩ (fun hHeld => ?_)
        clear hK K
        try simp only [Act.put, List.setIfInBounds_toArray, List.set_cons_zero, List.set_cons_succ]
        generalize wq1.alloc (.cells #[.int .u64 (uz ov.d), .int .u64 (uz ov.e)] 27) = wq3 at hHeld RN BD ⊢
        refine wpAnyH_ready (rs := [10]) (by kernel_rfl) (by simp) ?_
        refine AllReadyH.cons (by simp only [List.getElem?_toArray, List.getElem?_cons_zero, List.getElem?_cons_succ]; rfl) (fun K hK => ?_) ?_
        · skip
          obtain ⟨v5, wq4, run5, o5, gr5, wh5⟩ := u_two_run (own_belowE O6.out (chain hd BD.out)) nb ov.d ov.e RN.out (by omega) (Nat.le_trans BS.out (chain hd BD.out).size)
          refine step_append_run (by kernel_rfl) (.tmp 39) (.tmp 44) 28 28 (by kernel_rfl) (.slice A (2 * k) cc) (.slice (some ⟨nb, 0, none⟩) 2 2) (by kernel_rfl) (by kernel_rfl) v5 run5 ?_
          have e0 := gr5.block zo (Nat.lt_of_lt_of_le lz BD.out.size) (own_ne_type (own_belowE O6.out (chain hd BD.out)) ((BD.out.block zo lz).trans (oc_heap ZO.out)) (by decide))
          refine hK.out _ _ ⟨(World.cell?_of_block (a := ⟨zo, 0, none⟩) e0).trans ((BD.out.cell (p := ⟨zo, 0, none⟩) lz).trans z0), (World.cell?_of_block (a := ⟨zo, 1, none⟩) e0).trans ((BD.out.cell (p := ⟨zo, 1, none⟩) lz).trans z1)⟩ (fun hHeld => ?_)
          clear hK K
          try simp only [Act.put, List.setIfInBounds_toArray, List.set_cons_zero, List.set_cons_succ]
          obtain ⟨A5, c5, rfl, hd1, hd2⟩ := own_rg ucells_len (by decide) o5
          clear hd1 hd2
          have eg := gr5.block g (Nat.lt_of_lt_of_le l2 BD.out.size) (own_ne_type (own_belowE O6.out (chain hd BD.out)) ((BD.out.block g l2).trans (opb_heap OG.out)) (by decide))
          have OG5 := Lib.hid (eg.trans ((BD.out.block g l2).trans (opb_heap OG.out)))
          have Z05 := Lib.hid ((World.cell?_of_block (a := ⟨zo, 0, none⟩) e0).trans ((BD.out.cell (p := ⟨zo, 0, none⟩) lz).trans z0))
          have Z15 := Lib.hid ((World.cell?_of_block (a := ⟨zo, 1, none⟩) e0).trans ((BD.out.cell (p := ⟨zo, 1, none⟩) lz).trans z1))
          have KE := Lib.hid (open_keep (g := g) BW.out BB.out (chain hd BD.out) gr5 OR.out BS0.out)
          have OWN5 := Lib.hid o5
          have WH5 := Lib.hid (open_wh OX.out wh5 (Nat.le_trans BW.out.size (chain hd BD.out).size))
          clear e0 eg o5 gr5 wh5 run5
          refine wpAnyH_take (i := 11) (v := ?vv6009) (by simp only [List.getElem?_toArray, List.getElem?_cons_zero, List.getElem?_cons_succ]; rfl) (by kernel_rfl) (by kernel_rfl) (by kernel_rfl) (fun _ _ _ h => h) (Or.inl ⟨by rfl, ?yy6009⟩) (by assumption) ?rr6009
          case yy6009 => (intro w hSw; (try dsimp only at hSw); go_simp; first | done | with_reducible rfl)
          simp only [Act.put, List.setIfInBounds_toArray, List.set_cons_zero, List.set_cons_succ]
          refine wpAnyH_take (i := 12) (v := ?vv6010) (by simp only [List.getElem?_toArray, List.getElem?_cons_zero, List.getElem?_cons_succ]; rfl) (by kernel_rfl) (by kernel_rfl) (by kernel_rfl) (fun _ _ _ h => h) (Or.inl ⟨by rfl, ?yy6010⟩) (by assumption) ?rr6010
          case yy6010 => (intro w hSw; (try dsimp only at hSw); go_simp; first | done | with_reducible rfl)
          simp only [Act.put, List.setIfInBounds_toArray, List.set_cons_zero, List.set_cons_succ]
          refine wpAnyH_ready (rs := [13]) (by kernel_rfl) (by simp) ?_
          refine AllReadyH.cons (by simp only [List.getElem?_toArray, List.getElem?_cons_zero, List.getElem?_cons_succ]; rfl) (fun K hK => ?_) ?_
          · skip
            have gc := (OpB.cells (show OpB wq4 g _ _ _ _ _ _ _ from OG5.out)).2.2
            have gf := OpB.frozen (show OpB wq4 g _ _ _ _ _ _ _ from OG5.out) 2
            go_simp
            refine hK.out _ _ ⟨(World.cell?_of_block (Below.heap_setCell _ _ _ _ zg)).trans Z05.out, (World.cell?_of_block (Below.heap_setCell _ _ _ _ zg)).trans Z15.out⟩ (fun hHeld => ?_)
            clear hK K gc gf
            try simp only [Act.put, List.setIfInBounds_toArray, List.set_cons_zero, List.set_cons_succ]
            refine wpAnyH_done (by kernel_rfl) ?_ _
            refine NoPanic.normal ?_
            clear hHeld
            go_wp2_with fail
            go_end0
            have q1 : OpB wq4 g _ _ _ _ _ _ (.slice A (2 * k) cc) := OG5.out
            have q2 := OpB.set q1 (.slice A5 (2 * k + 2) c5)
            refine ⟨rfl, ?_⟩
            exact open_end q2 OWN5.out q1 KE.out WH5.out HG0.out OPK.out BB.out
          exact AllReadyH.nil
        exact AllReadyH.nil
      exact AllReadyH.nil
    refine AllReadyH.cons (by simp only [List.getElem?_toArray, List.getElem?_cons_zero, List.getElem?_cons_succ]; rfl) (fun K hK => ?_) ?_
    · skip
      go_simp
      clear hHeld
      obtain ⟨nb, hnb⟩ : ∃ b, b = wq1.heap.size := ⟨_, rfl⟩
      have RN : Hid ((wq1.alloc (.cells #[.int .u64 (uz ov.d), .int .u64 (uz ov.e)] 27)).heap[nb]? = some (.cells #[.int .u64 (uz ov.d), .int .u64 (uz ov.e)] 27)) := by rw [hnb]; exact heap_alloc_new wq1 _
      rw [← hnb]
      clear hnb
      replace BD := Lib.hid (chain_alloc BD.out (.cells #[.int .u64 (uz ov.d), .int .u64 (uz ov.e)] 27))
      refine hK.out _ _ ⟨(BD.out.cell (p := ⟨zo, 0, none⟩) lz).trans z0, (BD.out.cell (p := ⟨zo, 1, none⟩) lz).trans z1⟩ (fun hHeld => ?_)
      clear hK K
      try simp only [Act.put, List.setIfInBounds_toArray, List.set_cons_zero, List.set_cons_succ]
      generalize wq1.alloc (.cells #[.int .u64 (uz ov.d), .int .u64 (uz ov.e)] 27) = wq6 at hHeld RN BD ⊢
      refine wpAnyH_ready (rs := [4]) (by kernel_rfl) (by simp) ?_
      refine AllReadyH.cons (by simp only [List.getElem?_toArray, List.getElem?_cons_zero, List.getElem?_cons_succ]; rfl) (fun K hK => ?_) ?_
      · skip
        have zc : wq6.cell? ⟨g, 2, none⟩ = some (.slice A (2 * k) cc) := (BD.out.cell (p := ⟨g, 2, none⟩) l2).trans g2
        go_simp
        clear zc
        clear hHeld
        refine hK.out _ _ ⟨(BD.out.cell (p := ⟨zo, 0, none⟩) lz).trans z0, (BD.out.cell (p := ⟨zo, 1, none⟩) lz).trans z1⟩ (fun hHeld => ?_)
        clear hK K
        try simp only [Act.put, List.setIfInBounds_toArray, List.set_cons_zero, List.set_cons_succ]
        refine wpAnyH_ready (rs := [10]) (by kernel_rfl) (by simp) ?_
        refine AllReadyH.cons (by simp only [List.getElem?_toArray, List.getElem?_cons_zero, List.getElem?_cons_succ]; rfl) (fun K hK => ?_) ?_
        · skip
          obtain ⟨v5, wq8, run5, o5, gr5, wh5⟩ := u_two_run (own_belowE O6.out (chain hd BD.out)) nb ov.d ov.e RN.out (by omega) (Nat.le_trans BS.out (chain hd BD.out).size)
          refine step_append_run (by kernel_rfl) (.tmp 39) (.tmp 44) 28 28 (by kernel_rfl) (.slice A (2 * k) cc) (.slice (some ⟨nb, 0, none⟩) 2 2) (by kernel_rfl) (by kernel_rfl) v5 run5 ?_
          have e0 := gr5.block zo (Nat.lt_of_lt_of_le lz BD.out.size) (own_ne_type (own_belowE O6.out (chain hd BD.out)) ((BD.out.block zo lz).trans (oc_heap ZO.out)) (by decide))
          refine hK.out _ _ ⟨(World.cell?_of_block (a := ⟨zo, 0, none⟩) e0).trans ((BD.out.cell (p := ⟨zo, 0, none⟩) lz).trans z0), (World.cell?_of_block (a := ⟨zo, 1, none⟩) e0).trans ((BD.out.cell (p := ⟨zo, 1, none⟩) lz).trans z1)⟩ (fun hHeld => ?_)
          clear hK K
          try simp only [Act.put, List.setIfInBounds_toArray, List.set_cons_zero, List.set_cons_succ]
          obtain ⟨A5, c5, rfl, hd1, hd2⟩ := own_rg ucells_len (by decide) o5
          clear hd1 hd2
          have eg := gr5.block g (Nat.lt_of_lt_of_le l2 BD.out.size) (own_ne_type (own_belowE O6.out (chain hd BD.out)) ((BD.out.block g l2).trans (opb_heap OG.out)) (by decide))
          have OG5 := Lib.hid (eg.trans ((BD.out.block g l2).trans (opb_heap OG.out)))
          have Z05 := Lib.hid ((World.cell?_of_block (a := ⟨zo, 0, none⟩) e0).trans ((BD.out.cell (p := ⟨zo, 0, none⟩) lz).trans z0))
          have Z15 := Lib.hid ((World.cell?_of_block (a := ⟨zo, 1, none⟩) e0).trans ((BD.out.cell (p := ⟨zo, 1, none⟩) lz).trans z1))
          have KE := Lib.hid (open_keep (g := g) BW.out BB.out (chain hd BD.out) gr5 OR.out BS0.out)
          have OWN5 := Lib.hid o5
          have WH5 := Lib.hid (open_wh OX.out wh5 (Nat.le_trans BW.out.size (chain hd BD.out).size))
          clear e0 eg o5 gr5 wh5 run5
          refine wpAnyH_take (i := 11) (v := ?vv6011) (by simp only [List.getElem?_toArray, List.getElem?_cons_zero, List.getElem?_cons_succ]; rfl) (by kernel_rfl) (by kernel_rfl) (by kernel_rfl) (fun _ _ _ h => h) (Or.inl ⟨by rfl, ?yy6011⟩) (by assumption) ?rr6011
          case yy6011 => (intro w hSw; (try dsimp only at hSw); go_simp; first | done | with_reducible rfl)
          simp only [Act.put, List.setIfInBounds_toArray, List.set_cons_zero, List.set_cons_succ]
          refine wpAnyH_take (i := 12) (v := ?vv6012) (by simp only [List.getElem?_toArray, List.getElem?_cons_zero, List.getElem?_cons_succ]; rfl) (by kernel_rfl) (by kernel_rfl) (by kernel_rfl) (fun _ _ _ h => h) (Or.inl ⟨by rfl, ?yy6012⟩) (by assumption) ?rr6012
          case yy6012 => (intro w hSw; (try dsimp only at hSw); go_simp; first | done | with_reducible rfl)
          simp only [Act.put, List.setIfInBounds_toArray, List.set_cons_zero, List.set_cons_succ]
          refine wpAnyH_ready (rs := [13]) (by kernel_rfl) (by simp) ?_
          refine AllReadyH.cons (by simp only [List.getElem?_toArray, List.getElem?_cons_zero, List.getElem?_cons_succ]; rfl) (fun K hK => ?_) ?_
          · skip
            have gc := (OpB.cells (show OpB wq8 g _ _ _ _ _ _ _ from OG5.out)).2.2
            have gf := OpB.frozen (show OpB wq8 g _ _ _ _ _ _ _ from OG5.out) 2
            go_simp
            refine hK.out _ _ ⟨(World.cell?_of_block (Below.heap_setCell _ _ _ _ zg)).trans Z05.out, (World.cell?_of_block (Below.heap_setCell _ _ _ _ zg)).trans Z15.out⟩ (fun hHeld => ?_)
            clear hK K gc gf
            try simp only [Act.put, List.setIfInBounds_toArray, List.set_cons_zero, List.set_cons_succ]
            refine wpAnyH_done (by kernel_rfl) ?_ _
            refine NoPanic.normal ?_
            clear hHeld
            go_wp2_with fail
            go_end0
            have q1 : OpB wq8 g _ _ _ _ _ _ (.slice A (2 * k) cc) := OG5.out
            have q2 := OpB.set q1 (.slice A5 (2 * k + 2) c5)
            refine ⟨rfl, ?_⟩
            exact open_end q2 OWN5.out q1 KE.out WH5.out HG0.out OPK.out BB.out
          exact AllReadyH.nil
        exact AllReadyH.nil
      exact AllReadyH.nil
    exact AllReadyH.nil

end Go.Proofs.Ytklgjhldebdegaa
