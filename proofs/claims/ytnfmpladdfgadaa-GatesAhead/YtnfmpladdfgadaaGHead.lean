/-
  What package gates answers: Total, Stages. What package gates answers: Range. What package gates answers: Line. What package gates answers: Gate. What package gates answers: Index. The fixed questions of layer 8.
-/
import Derived.Test.YtnfmpladdfgadaaGSpan
import Derived.Deep.AppendLies
import Derived.Deep.RegionHeld3
import Derived.Test.YtnfmpladdfgadaaTHead
namespace Go.Proofs.Ytnfmpladdfgadaa
open Go.RowKit Go.Shelf
attribute [local go_sem] Oper.semAt_some

/-! ### Blocks that are laid one behind the other -/
theorem tow_size : ∀ (os : List Obj) (w : World), (os.foldl World.alloc w).heap.size = w.heap.size + os.length
  | [], _ => rfl
  | o :: os, w => by rw [List.foldl_cons, tow_size os, World.size_alloc, List.length_cons]; omega
theorem tow_old : ∀ (os : List Obj) (w : World) (k : Nat), k < w.heap.size → (os.foldl World.alloc w).heap[k]? = w.heap[k]?
  | [], _, _, _ => rfl
  | o :: os, w, k, h => by rw [List.foldl_cons, tow_old os _ k (by rw [World.size_alloc]; omega)]; exact Lib.alloc_old w o k h
theorem tow_at : ∀ (os : List Obj) (w : World) (i : Nat) (o : Obj), os[i]? = some o → (os.foldl World.alloc w).heap[w.heap.size + i]? = some o
  | [], _, _, _, h => by simp at h
  | o :: os, w, 0, q, h => by
    simp at h; subst h
    rw [List.foldl_cons, tow_old os _ _ (by rw [World.size_alloc]; omega)]; exact heap_alloc_new w _
  | o :: os, w, i + 1, q, h => by
    rw [List.foldl_cons, show w.heap.size + (i + 1) = (w.alloc o).heap.size + i by rw [World.size_alloc]; omega]
    exact tow_at os _ i q (by simpa using h)
theorem tow_below : ∀ (os : List Obj) (w : World), Below w.heap.size w (os.foldl World.alloc w)
  | [], _ => Below.refl _ _
  | o :: os, w => chain ((Below.refl _ w).alloc (Nat.le_refl _) o) (tow_below os (w.alloc o))
theorem cb_own {β : Type} (b T : Nat) (v : Value) : Own (fun (_ : β) W => CB W b T v) := cells_own b _ T _

set_option maxHeartbeats 1000000 in
theorem gtotal8 (c h x : Int) (A : Option Addr) (cA n : Nat) (ls : List Ly) (w : World) (hx : Rl w A ls) (ln : n = ls.length) (hn : n ≤ 60) :
    Calls Try.prog 48 #[.agg #[.int .i64 c, .int .i64 h, .int .i64 x, .slice A n cA]] w fun e w' => e = .returned (.int .i64 (totP (knN ⟨c, h, x, ls⟩))) ∧ Below w.heap.size w w' := by
  have HX := Lib.hid hx; have LX := Lib.hid ln
  have hn1 : n ≤ 1000 := by omega
  clear hx ln
  go_enter Try.func48, Try.ntmps48
  go_wp2_with fail
  refine (all_any c h x A cA n ls _ (HX.out.below ((Below.refl _ w).alloc (Nat.le_refl _) _)) LX.out hn1).mono ?_
  rintro e w1 ⟨rfl, hb⟩
  have B1 := Lib.hid (chain ((Below.refl w.heap.size w).alloc (Nat.le_refl _) _) hb)
  clear hb
  go_wp2_with fail
  go_ret
  exact ⟨rfl, B1.out⟩

set_option maxHeartbeats 4000000 in
set_option maxRecDepth 100000 in
theorem gstages8 (c h x : Int) (A : Option Addr) (cA n : Nat) (ls : List Ly) (w : World) (hx : Rl w A ls) (ln : n = ls.length) (hn : n ≤ 60) :
    Calls Try.prog 46 #[.agg #[.int .i64 c, .int .i64 h, .int .i64 x, .slice A n cA]] w (RowTo icells (stagesN ⟨c, h, x, ls⟩) w) := by
  obtain ⟨i0, hi, hz0, hz1, hz2⟩ := info_parts Try.info3
  have HX := Lib.hid hx; have LX := Lib.hid ln
  clear hx ln
  obtain ⟨m, hm⟩ : ∃ m : Nat, 9 ≤ m := ⟨9, Nat.le_refl _⟩
  refine (callsIn_wide (n := m)).1 ?_
  refine callsIn_of_wp_marks Try.func46 rfl trivial ?_ rfl
  simp only [Try.ntmps46, List.size_toArray, List.length_cons, List.length_nil, Nat.reduceAdd, Nat.reduceSub, Array.replicate_succ, Array.replicate_zero, List.push_toArray, List.append_toArray, List.nil_append, List.cons_append]
  gi_wp2_with fail
  refine ⟨trivial, fun z => by simp [Fence.wide] at z, (callsIn_wide.2 (gspans8 c h x (.slice A n cA) _)).mono ?_⟩
  rintro e w1 ⟨rfl, rfl⟩
  gi_wp2_with fail
  have bL : Boxed (((w.alloc (.cells #[.int .i64 c, .int .i64 h, .int .i64 x, .slice A n cA] 26)).alloc (.cells #[.slice none 0 0] 43)).alloc (.cells #[.int .i64 c, .int .i64 h, .int .i64 x, .slice A n cA] 26)) (w.heap.size + 1) 43 (.slice none 0 0) := by
    have := (Boxed.new (w.alloc (.cells #[.int .i64 c, .int .i64 h, .int .i64 x, .slice A n cA] 26)) 43 (.slice none 0 0)).alloc (.cells #[.int .i64 c, .int .i64 h, .int .i64 x, .slice A n cA] 26)
    rwa [World.size_alloc] at this
  have bN : NB (((w.alloc (.cells #[.int .i64 c, .int .i64 h, .int .i64 x, .slice A n cA] 26)).alloc (.cells #[.slice none 0 0] 43)).alloc (.cells #[.int .i64 c, .int .i64 h, .int .i64 x, .slice A n cA] 26)) (w.heap.size + 1 + 1) c h x (.slice A n cA) := by
    have := NB.new ((w.alloc (.cells #[.int .i64 c, .int .i64 h, .int .i64 x, .slice A n cA] 26)).alloc (.cells #[.slice none 0 0] 43)) c h x (.slice A n cA)
    rwa [World.size_alloc, World.size_alloc] at this
  have hB0 : Below w.heap.size w (((w.alloc (.cells #[.int .i64 c, .int .i64 h, .int .i64 x, .slice A n cA] 26)).alloc (.cells #[.slice none 0 0] 43)).alloc (.cells #[.int .i64 c, .int .i64 h, .int .i64 x, .slice A n cA] 26)) := (((Below.refl _ w).alloc (Nat.le_refl _) _).alloc (by simp) _).alloc (by simp; omega) _
  have hsz : (((w.alloc (.cells #[.int .i64 c, .int .i64 h, .int .i64 x, .slice A n cA] 26)).alloc (.cells #[.slice none 0 0] 43)).alloc (.cells #[.int .i64 c, .int .i64 h, .int .i64 x, .slice A n cA] 26)).heap.size = w.heap.size + 3 := by simp
  obtain ⟨W0, hW0⟩ : ∃ W0, (((w.alloc (.cells #[.int .i64 c, .int .i64 h, .int .i64 x, .slice A n cA] 26)).alloc (.cells #[.slice none 0 0] 43)).alloc (.cells #[.int .i64 c, .int .i64 h, .int .i64 x, .slice A n cA] 26)) = W0 := ⟨_, rfl⟩
  rw [hW0] at bL bN hB0 hsz ⊢
  clear hW0
  refine wpIn_rangeFunc_ownH (F := Fence.wide) rfl (by omega) (gf := 97) (lb := #[.pointer (some ⟨w.heap.size + 1 + 1, 0, none⟩)]) rfl trivial (enters_of Try.func97 (by kernel_rfl) rfl)
    (spans1_stops (m - 1) c h x A cA n ls w HX.out LX.out hn (w.heap.size + 1 + 1) (fun _ T => T = 3 ∨ T = 43) W0 bN (by decide) (fun _ _ => by decide) hB0) (fun h k => h.trans k) (fun W l o o' => Kx.put (by omega) W l o o') (Below.refl _ _) (fun _ => rfl)
    (fun pre W => (∃ v, Boxed W (w.heap.size + 1) 43 v ∧ W.ownsRow w.heap.size 3 1 v pre.length ((pre.map (fun y => ((y.1 : Nat) : Int))).flatMap icells) ∧ True) ∧ Below w.heap.size w W)
    (fun _ _ _ => False)
    (OwnFrom.and (Own.from (holdsRow_own w.heap.size (w.heap.size + 1) 43 3 1 (fun pre : List (St ⟨c, h, x, ls⟩) => pre.length) (fun pre => (pre.map (fun y => ((y.1 : Nat) : Int))).flatMap icells) (fun _ _ => True)) _) (ownFrom_below (Nat.le_refl _) (by omega)))
    (fun _ _ _ _ _ hs _ _ => hs)
    ⟨⟨_, bL, World.ownsRow_nil _ _ _ _, trivial⟩, hB0⟩
    (fun y a' W => ∃ Bx, w.heap.size + 1 < Bx ∧ PB W Bx ((y.1 : Nat) : Int) (firstS ⟨c, h, x, ls⟩ y.1) (manyS ⟨c, h, x, ls⟩ y.1) (eachS ⟨c, h, x, ls⟩ y.1) ∧ a' = { tmps := #[.agg #[.int .i64 c, .int .i64 h, .int .i64 x, .slice A n cA], .pointer (some ⟨w.heap.size, 0, none⟩), .slice none 0 0, .pointer (some ⟨w.heap.size + 1, 0, none⟩), undef, .pointer (some ⟨Bx, 0, none⟩), .agg #[.int .i64 c, .int .i64 h, .int .i64 x, .slice A n cA], .func (.func 97) #[] #[.pointer (some ⟨w.heap.size + 1 + 1, 0, none⟩)], .int .i64 (numS ⟨c, h, x, ls⟩ y.1), .agg #[.int .i64 ((y.1 : Nat) : Int), .int .i64 (firstS ⟨c, h, x, ls⟩ y.1), .int .i64 (manyS ⟨c, h, x, ls⟩ y.1), .int .i64 (eachS ⟨c, h, x, ls⟩ y.1)], undef, undef, undef, undef, undef, undef], defers := [] })
    (fun y a' _ P1 P2 row hs hg hr => by obtain ⟨Bx, e1, e2, e3⟩ := hs; exact ⟨Bx, e1, cells_own Bx _ _ _ () P1 P2 row e2 hg (fun r e => (hr r e).2), e3⟩)
    ?assign ?body ?done ?stop
  case assign =>
    rintro l pre y W K ⟨⟨v, hv, hrow, _⟩, hB⟩ hK
    simp only [encS]
    gi_wp2_with fail
    exact hK _ _ ((KeepsOthers.alloc _ _).from _) ((Kx.refl _ _ W).alloc hB.size _) ⟨⟨v, hv.alloc _, hrow.alloc _, trivial⟩, hB.alloc hB.size _⟩ ⟨W.heap.size, hv.lt, heap_alloc_new W _, rfl⟩
  case body =>
    rintro l pre y a' W hl ⟨r, hr⟩ ⟨⟨v, hv, hrow, _⟩, hB⟩ ⟨Bx, hBx, bX, rfl⟩ hlt
    obtain ⟨x0, x1, x2, x3⟩ := bX.cells
    have hc := hv.cell
    have lX := bX.lt
    have szW := hB.size
    have HRW := Lib.hid hrow; have HV := Lib.hid hv; have HBB := Lib.hid hB; have BX := Lib.hid bX
    clear hrow hv hB bX hr hl x1 x2 x3
    gi_wp2_with (gi_at_builtin; refine wpListIn_append_own _ rfl _ _ 43 rfl w.heap.size 3 i0 (.int .i64 0) 1 8 Try.underlying43 hi hz0 hz1 hz2 rfl (by decide) _ _ _ rfl (HRW.out.alloc _) ⟨W.heap.size, 0, none⟩ 1 1 (icells ((y.1 : Nat) : Int)) rfl rfl (cell_one_new _ _ _) (icells_one _) (by unfold maxLen; omega) (by omega) (by simp; omega) ?_; intro v' w1 hown' hgrow _; obtain ⟨g', cap', rfl⟩ := ownsRow_succ hown'; obtain ⟨hv1, hv2, hr2, hk2, hb2⟩ := HV.out.appended (by decide) HRW.out HBB.out.size (by omega) hown' hgrow; have hc1 := hv1.cell; have hf1 := hv1.frozen)
    refine ⟨hk2.from _, ⟨hb2, fun k cs T fr h0 hx => ?_⟩, ⟨⟨_, hv2, by simpa using hr2, trivial⟩, HBB.out.trans hb2⟩⟩
    have q0 : k ≠ w.heap.size + 1 := fun e => by subst e; rw [show W.heap[w.heap.size + 1]? = _ from HV.out] at h0; cases h0; exact hx (.inr rfl)
    have q1 := (Below.heap_alloc W (.cells #[.int .i64 ((y.1 : Nat) : Int)] 3) k (Array.getElem?_eq_some_iff.1 h0).1).trans h0
    have q2 := (hgrow.block k (Array.getElem?_eq_some_iff.1 q1).1 (own_ne_type (HRW.out.alloc _) q1 (fun e => hx (.inl e)))).trans q1
    exact (Below.heap_setCell _ _ _ _ q0).trans q2
  case done =>
    rintro D ys W hD rfl ⟨⟨v, hv, hrow, _⟩, hB⟩ hK
    have hc := hv.cell
    obtain ⟨A2, c2, rfl, d1, d2, d3, d4⟩ := own_cap icells_len (by decide) (ownsRow_putObj hrow (.deferred none) hK rfl)
    have D1 := Lib.hid d1; have D2 := Lib.hid d2; have D3 := Lib.hid d3; have D4 := Lib.hid d4; have HK := Lib.hid hK; have HBB := Lib.hid hB
    clear d1 d2 d3 d4 hrow hB hK
    gi_wp2_with fail
    refine ⟨by simp, .inl ⟨_, _, rfl, run_takeDeferred HK.out, ?_⟩⟩
    refine ⟨_, results_tmp rfl _ _ _, A2, c2, _, rfl, ?_, ?_, HBB.out.trans (belowK_b (w := w) (Nat.le_refl _) W D _ _ (by omega) HK.out rfl rfl), D3.out, D4.out⟩
    · rw [← stL_st, List.length_map]
    · rw [← stL_st]; exact D2.out
  case stop =>
    rintro D q pre W _ _ hf _
    exact hf.elim

end Go.Proofs.Ytnfmpladdfgadaa

namespace Go.Proofs.Ytnfmpladdfgadaa
open Go.RowKit Go.Shelf
attribute [local go_sem] Oper.semAt_some

theorem cb_put {W : World} {b T D : Nat} {v : Value} (o : Obj) (h : CB W b T v) (hD : b ≠ D) : CB (W.putObj D o) b T v := (World.putObj_heap_other hD).trans h

set_option maxHeartbeats 4000000 in
set_option maxRecDepth 100000 in
theorem grange8 (c h x : Int) (A : Option Addr) (cA n : Nat) (ls : List Ly) (s : Int) (a b : Int) (hab : rangeN ⟨c, h, x, ls⟩ s = (a, b)) (w : World) (hx : Rl w A ls) (ln : n = ls.length) (hn : n ≤ 60) :
    Calls Try.prog 40 #[.agg #[.int .i64 c, .int .i64 h, .int .i64 x, .slice A n cA], .int .i64 s] w fun e w' => e = .returned (.tuple #[.int .i64 a, .int .i64 b]) ∧ Below w.heap.size w w' := by
  have HAB := Lib.hid hab
  have HX := Lib.hid hx; have LX := Lib.hid ln
  clear hx ln hab
  obtain ⟨m, hm⟩ : ∃ m : Nat, 9 ≤ m := ⟨9, Nat.le_refl _⟩
  refine (callsIn_wide (n := m)).1 ?_
  refine callsIn_of_wp_marks Try.func40 rfl trivial ?_ rfl
  simp only [Try.ntmps40, List.size_toArray, List.length_cons, List.length_nil, Nat.reduceAdd, Nat.reduceSub, Array.replicate_succ, Array.replicate_zero, List.push_toArray, List.append_toArray, List.nil_append, List.cons_append]
  gi_wp2_with fail
  refine ⟨trivial, fun z => by simp [Fence.wide] at z, (callsIn_wide.2 (gspans8 c h x (.slice A n cA) _)).mono ?_⟩
  rintro e w1 ⟨rfl, rfl⟩
  gi_wp2_with fail
  obtain ⟨os, hos⟩ : ∃ os : List Obj, os = [.cells #[.int .i64 c, .int .i64 h, .int .i64 x, .slice A n cA] 26, .cells #[.int .i64 s] 3, .cells #[.int .i64 0] 3, .cells #[.int .i64 0] 3, .cells #[.int .i64 c, .int .i64 h, .int .i64 x, .slice A n cA] 26] := ⟨_, rfl⟩
  have bS : CB (os.foldl World.alloc w) (w.heap.size + 1) 3 (.int .i64 s) := tow_at os w 1 _ (by rw [hos]; rfl)
  have b0 : CB (os.foldl World.alloc w) (w.heap.size + 1 + 1) 3 (.int .i64 0) := tow_at os w 2 _ (by rw [hos]; rfl)
  have b1 : CB (os.foldl World.alloc w) (w.heap.size + 1 + 1 + 1) 3 (.int .i64 0) := tow_at os w 3 _ (by rw [hos]; rfl)
  have bN : NB (os.foldl World.alloc w) (w.heap.size + 1 + 1 + 1 + 1) c h x (.slice A n cA) := tow_at os w 4 _ (by rw [hos]; rfl)
  have hB0 := tow_below os w
  have hsz : (os.foldl World.alloc w).heap.size = w.heap.size + 5 := by rw [tow_size, hos]; rfl
  obtain ⟨W0, hW0⟩ : ∃ W0, os.foldl World.alloc w = W0 := ⟨_, rfl⟩
  have eW : [.cells #[.int .i64 c, .int .i64 h, .int .i64 x, .slice A n cA] 26, .cells #[.int .i64 s] 3, .cells #[.int .i64 0] 3, .cells #[.int .i64 0] 3, .cells #[.int .i64 c, .int .i64 h, .int .i64 x, .slice A n cA] 26].foldl World.alloc w = W0 := by rw [← hos]; exact hW0
  rw [hW0] at bS b0 b1 bN hB0 hsz
  simp only [List.foldl_cons, List.foldl_nil] at eW
  rw [eW]
  clear hW0 eW hos os
  refine wpIn_rangeFunc_ownH (F := Fence.wide) rfl (by omega) (gf := 97) (lb := #[.pointer (some ⟨w.heap.size + 1 + 1 + 1 + 1, 0, none⟩)]) rfl trivial (enters_of Try.func97 (by kernel_rfl) rfl)
    (spans1_stops (m - 1) c h x A cA n ls w HX.out LX.out hn (w.heap.size + 1 + 1 + 1 + 1) (fun k _ => k = w.heap.size + 1 + 1 ∨ k = w.heap.size + 1 + 1 + 1) W0 bN (by omega) (fun _ _ => by omega) hB0) (fun h k => h.trans k) (fun W l o o' => Kx.put (by omega) W l o o') (Below.refl _ _) (fun _ => rfl)
    (fun pre W => ((((∀ y ∈ pre, ¬ numS ⟨c, h, x, ls⟩ y.1 = s) ∧ CB W (w.heap.size + 1) 3 (.int .i64 s)) ∧ CB W (w.heap.size + 1 + 1) 3 (.int .i64 0)) ∧ CB W (w.heap.size + 1 + 1 + 1) 3 (.int .i64 0)) ∧ Below w.heap.size w W)
    (fun q _ W => (∃ y : St ⟨c, h, x, ls⟩, (q = .ret ∧ numS ⟨c, h, x, ls⟩ y.1 = s) ∧ CB W (w.heap.size + 1 + 1) 3 (.int .i64 (firstS ⟨c, h, x, ls⟩ y.1)) ∧ CB W (w.heap.size + 1 + 1 + 1) 3 (.int .i64 (manyS ⟨c, h, x, ls⟩ y.1))) ∧ Below w.heap.size w W)
    (OwnFrom.and (OwnFrom.and (OwnFrom.and (OwnFrom.and (ownFrom_pure _ _) (Own.from (cb_own _ _ _) _)) (Own.from (cb_own _ _ _) _)) (Own.from (cb_own _ _ _) _)) (ownFrom_below (Nat.le_refl _) (by omega)))
    (fun q => OwnFrom.and (fun p P1 P2 row hs hg hr => by obtain ⟨y, e1, e2, e3⟩ := hs; exact ⟨y, e1, cb_own _ _ _ () P1 P2 row e2 hg (fun r e => (hr r e).2), cb_own _ _ _ () P1 P2 row e3 hg (fun r e => (hr r e).2)⟩) (ownFrom_below (Nat.le_refl _) (by omega)))
    ⟨⟨⟨⟨by simp, bS⟩, b0⟩, b1⟩, hB0⟩
    (fun y a' W => ∃ Bx, w.heap.size + 1 + 1 + 1 < Bx ∧ PB W Bx ((y.1 : Nat) : Int) (firstS ⟨c, h, x, ls⟩ y.1) (manyS ⟨c, h, x, ls⟩ y.1) (eachS ⟨c, h, x, ls⟩ y.1) ∧ a' = { tmps := #[.agg #[.int .i64 c, .int .i64 h, .int .i64 x, .slice A n cA], .int .i64 s, .pointer (some ⟨w.heap.size, 0, none⟩), .pointer (some ⟨w.heap.size + 1, 0, none⟩), .pointer (some ⟨w.heap.size + 1 + 1, 0, none⟩), .pointer (some ⟨w.heap.size + 1 + 1 + 1, 0, none⟩), .int .i64 (numS ⟨c, h, x, ls⟩ y.1), .pointer (some ⟨Bx, 0, none⟩), .agg #[.int .i64 c, .int .i64 h, .int .i64 x, .slice A n cA], .func (.func 97) #[] #[.pointer (some ⟨w.heap.size + 1 + 1 + 1 + 1, 0, none⟩)], .int .i64 (numS ⟨c, h, x, ls⟩ y.1), .agg #[.int .i64 ((y.1 : Nat) : Int), .int .i64 (firstS ⟨c, h, x, ls⟩ y.1), .int .i64 (manyS ⟨c, h, x, ls⟩ y.1), .int .i64 (eachS ⟨c, h, x, ls⟩ y.1)], undef, undef, undef, undef, undef, undef, undef], defers := [] })
    (fun y a' _ P1 P2 row hs hg hr => by obtain ⟨Bx, e1, e2, e3⟩ := hs; exact ⟨Bx, e1, cells_own Bx _ _ _ () P1 P2 row e2 hg (fun r e => (hr r e).2), e3⟩)
    ?assign ?body ?done ?stop
  case assign =>
    rintro l pre y W K ⟨⟨⟨⟨hp, dS⟩, d0⟩, d1⟩, hB⟩ hK
    simp only [encS]
    gi_wp2_with fail
    have al := (Below.refl W.heap.size W).alloc (Nat.le_refl _) (.cells #[.int .i64 ((y.1 : Nat) : Int), .int .i64 (firstS ⟨c, h, x, ls⟩ y.1), .int .i64 (manyS ⟨c, h, x, ls⟩ y.1), .int .i64 (eachS ⟨c, h, x, ls⟩ y.1)] 107)
    exact hK _ _ ((KeepsOthers.alloc _ _).from _) ((Kx.refl _ _ W).alloc hB.size _) ⟨⟨⟨⟨hp, dS.below al⟩, d0.below al⟩, d1.below al⟩, hB.alloc hB.size _⟩ ⟨W.heap.size, by have := d1.lt; omega, heap_alloc_new W _, rfl⟩
  case body =>
    rintro l pre y a' W hl ⟨r, hr⟩ ⟨⟨⟨⟨hp, dS⟩, d0⟩, d1⟩, hB⟩ ⟨Bx, hBx, bX, rfl⟩ hlt
    obtain ⟨x0, x1, x2, x3⟩ := bX.cells
    have hc := dS.cell
    have z0 := d0.cell; have z1 := d1.cell; have q0 := d0.frozen; have q1 := d1.frozen
    have lX := bX.lt
    have szW := hB.size
    have D0 := Lib.hid d0; have D1 := Lib.hid d1; have DS := Lib.hid dS; have HBB := Lib.hid hB; have BX := Lib.hid bX; have HP := Lib.hid hp
    obtain ⟨nu, hnu⟩ : ∃ nu, nu = numS ⟨c, h, x, ls⟩ y.1 := ⟨_, rfl⟩
    rw [← hnu]
    have NU := Lib.hid hnu
    clear d0 d1 dS hB bX hr hl x0 x3 hp hnu
    by_cases hs : nu = s
    · have e1 : (nu == s) = true := by simpa using hs
      have HS := Lib.hid hs
      clear hs
      gi_wp2_with fail
      obtain ⟨fi, hfi⟩ : ∃ fi, fi = firstS ⟨c, h, x, ls⟩ y.1 := ⟨_, rfl⟩
      obtain ⟨ma, hma⟩ : ∃ ma, ma = manyS ⟨c, h, x, ls⟩ y.1 := ⟨_, rfl⟩
      rw [← hfi] at x1
      rw [← hma] at x2
      have FI := Lib.hid hfi; have MA := Lib.hid hma
      clear hfi hma
      refine region_round (S := fun w' => w'.cell? ⟨Bx, 1, none⟩ = some (.int .i64 fi) ∧ w'.cell? ⟨Bx, 2, none⟩ = some (.int .i64 ma)) (noDefers_of (by kernel_rfl)) (fun ⟨_, _, hz⟩ => hz) l _ (by kernel_rfl) ⟨x1, x2⟩ (fun hHeld => ?_)
      refine wpAnyH_take (i := 0) (v := ?vv1) (by simp only [List.getElem?_toArray, List.getElem?_cons_zero]; rfl) (by kernel_rfl) (by kernel_rfl) (by kernel_rfl) (fun _ _ _ h => h) (Or.inl ⟨by rfl, ?yy1⟩) (by assumption) ?rr1
      case yy1 => (intro w hSw; (try dsimp only at hSw); go_simp; first | done | with_reducible rfl)
      simp only [Act.put, List.setIfInBounds_toArray, List.set_cons_zero, List.set_cons_succ]
      refine wpAnyH_take (i := 1) (v := ?vv2) (by simp only [List.getElem?_toArray, List.getElem?_cons_zero, List.getElem?_cons_succ]; rfl) (by kernel_rfl) (by kernel_rfl) (by kernel_rfl) (fun _ _ _ h => h) (Or.inl ⟨by rfl, ?yy2⟩) (by assumption) ?rr2
      case yy2 => (intro w hSw; (try dsimp only at hSw); go_simp; first | done | with_reducible rfl)
      simp only [Act.put, List.setIfInBounds_toArray, List.set_cons_zero, List.set_cons_succ]
      refine wpAnyH_take (i := 2) (v := ?vv3) (by simp only [List.getElem?_toArray, List.getElem?_cons_zero, List.getElem?_cons_succ]; rfl) (by kernel_rfl) (by kernel_rfl) (by kernel_rfl) (fun _ _ _ h => h) (Or.inl ⟨by rfl, ?yy3⟩) (by assumption) ?rr3
      case yy3 => (intro w hSw; (try dsimp only at hSw); go_simp; first | done | with_reducible rfl)
      simp only [Act.put, List.setIfInBounds_toArray, List.set_cons_zero, List.set_cons_succ]
      refine wpAnyH_take (i := 3) (v := ?vv4) (by simp only [List.getElem?_toArray, List.getElem?_cons_zero, List.getElem?_cons_succ]; rfl) (by kernel_rfl) (by kernel_rfl) (by kernel_rfl) (fun _ _ _ h => h) (Or.inl ⟨by rfl, ?yy4⟩) (by assumption) ?rr4
      case yy4 => (intro w hSw; (try dsimp only at hSw); go_simp; first | done | with_reducible rfl)
      simp only [Act.put, List.setIfInBounds_toArray, List.set_cons_zero, List.set_cons_succ]
      refine wpAnyH_ready (rs := [4]) (by kernel_rfl) (by simp) ?_
      refine AllReadyH.cons (by simp only [List.getElem?_toArray, List.getElem?_cons_zero, List.getElem?_cons_succ]; rfl) (fun K hK => ?_) AllReadyH.nil
      go_simp
      have n0 : ¬ Bx = w.heap.size + 1 + 1 := by omega
      have n1 : ¬ Bx = w.heap.size + 1 + 1 + 1 := by omega
      have E4 : Hid (CB (W.setCell ⟨w.heap.size + 1 + 1, 0, none⟩ (.int .i64 fi)).drew (w.heap.size + 1 + 1) 3 (.int .i64 fi)) := CB.set D0.out _
      have E5 : Hid (CB (W.setCell ⟨w.heap.size + 1 + 1, 0, none⟩ (.int .i64 fi)).drew (w.heap.size + 1 + 1 + 1) 3 (.int .i64 0)) := CB.other D1.out _ _ (by show w.heap.size + 1 + 1 + 1 ≠ w.heap.size + 1 + 1; omega)
      have B4 : Hid (Below w.heap.size w (W.setCell ⟨w.heap.size + 1 + 1, 0, none⟩ (.int .i64 fi)).drew) := chain (HBB.out.setCell (p := ⟨w.heap.size + 1 + 1, 0, none⟩) (by show w.heap.size ≤ w.heap.size + 1 + 1; omega) _) (below_drew _)
      have K4 : Hid (KeepsOthers W (W.setCell ⟨w.heap.size + 1 + 1, 0, none⟩ (.int .i64 fi)).drew) := (KeepsOthers.setCell _ _ _).trans (KeepsOthers.drew _)
      have g0 : (W.setCell ⟨w.heap.size + 1 + 1, 0, none⟩ (.int .i64 fi)).drew.cell? ⟨Bx, 1, none⟩ = some (.int .i64 fi) := (World.cell?_of_block (a := ⟨Bx, 1, none⟩) (Below.heap_setCell W ⟨w.heap.size + 1 + 1, 0, none⟩ _ Bx n0)).trans x1
      have g1 : (W.setCell ⟨w.heap.size + 1 + 1, 0, none⟩ (.int .i64 fi)).drew.cell? ⟨Bx, 2, none⟩ = some (.int .i64 ma) := (World.cell?_of_block (a := ⟨Bx, 2, none⟩) (Below.heap_setCell W ⟨w.heap.size + 1 + 1, 0, none⟩ _ Bx n0)).trans x2
      refine hK.out _ _ ⟨g0, g1⟩ (fun hHeld => ?_)
      have GV0 := Lib.hid g0; have GV1 := Lib.hid g1
      have DS4 : Hid (CB (W.setCell ⟨w.heap.size + 1 + 1, 0, none⟩ (.int .i64 fi)).drew (w.heap.size + 1) 3 (.int .i64 s)) := CB.other DS.out _ _ (by show w.heap.size + 1 ≠ w.heap.size + 1 + 1; omega)
      clear hK K hHeld g0 g1 z0 z1 q0 q1 x1 x2 hc
      try simp only [Act.put, List.setIfInBounds_toArray, List.set_cons_zero, List.set_cons_succ]
      generalize (W.setCell ⟨w.heap.size + 1 + 1, 0, none⟩ (.int .i64 fi)).drew = V at E4 E5 B4 K4 GV0 GV1 DS4 ⊢
      refine wpAnyH_ready (rs := [5]) (by kernel_rfl) (by simp) ?_
      refine AllReadyH.cons (by simp only [List.getElem?_toArray, List.getElem?_cons_zero, List.getElem?_cons_succ]; rfl) (fun K hK => ?_) AllReadyH.nil
      have z1 := E5.out.cell; have q1 := E5.out.frozen
      go_simp
      refine hK.out _ _ ?cS (fun hHeld => ?_)
      case cS => exact ⟨(World.cell?_of_block (a := ⟨Bx, 1, none⟩) (Below.heap_setCell V ⟨w.heap.size + 1 + 1 + 1, 0, none⟩ _ Bx n1)).trans GV0.out, (World.cell?_of_block (a := ⟨Bx, 2, none⟩) (Below.heap_setCell V ⟨w.heap.size + 1 + 1 + 1, 0, none⟩ _ Bx n1)).trans GV1.out⟩
      clear hK K hHeld z1 q1
      try simp only [Act.put, List.setIfInBounds_toArray, List.set_cons_zero, List.set_cons_succ]
      refine wpAnyH_done (by kernel_rfl) ?_ _
      gi_wp2_with fail
      exact ⟨(K4.out.trans (KeepsOthers.setCell _ _ _)).from _, ⟨y, ⟨rfl, NU.out.symm.trans HS.out⟩, by rw [← FI.out]; exact CB.other E4.out _ _ (by show w.heap.size + 1 + 1 ≠ w.heap.size + 1 + 1 + 1; omega), by rw [← MA.out]; exact CB.set E5.out _⟩, B4.out.setCell (p := ⟨w.heap.size + 1 + 1 + 1, 0, none⟩) (by show w.heap.size ≤ w.heap.size + 1 + 1 + 1; omega) _⟩
    · have e1 : (nu == s) = false := by simpa using hs
      have HS := Lib.hid hs
      clear hs
      gi_wp2_with fail
      exact ⟨KeepsFrom.refl _ _, Kx.refl _ _ _, ⟨⟨⟨⟨fun z hz => (List.mem_append.1 hz).elim (HP.out z) (fun e e' => by simp at e; subst e; exact HS.out (NU.out.trans e')), DS.out⟩, D0.out⟩, D1.out⟩, HBB.out⟩⟩
  case done =>
    rintro D ys W hD rfl ⟨⟨⟨⟨hp, dS⟩, d0⟩, d1⟩, hB⟩ hK
    have z0 := d0.cell; have z1 := d1.cell; have q0 := d0.frozen; have q1 := d1.frozen
    have D0 := Lib.hid d0; have D1 := Lib.hid d1; have HBB := Lib.hid hB; have HP := Lib.hid hp; have HK := Lib.hid hK
    obtain ⟨rfl, rfl⟩ : a = 0 ∧ b = 0 := by
      have := HAB.out
      rw [range_miss HP.out] at this
      injection this with z1 z2
      exact ⟨z1.symm, z2.symm⟩
    clear dS d0 d1 hB hp hK
    gi_wp2_with fail
    have hK' := ((KeepsOthers.setCell W ⟨w.heap.size + 1 + 1, 0, none⟩ (.int .i64 0)).trans (KeepsOthers.setCell _ ⟨w.heap.size + 1 + 1 + 1, 0, none⟩ (.int .i64 0))).same D _ HK.out rfl
    have e0 : CB ((W.setCell ⟨w.heap.size + 1 + 1, 0, none⟩ (.int .i64 0)).setCell ⟨w.heap.size + 1 + 1 + 1, 0, none⟩ (.int .i64 0)) (w.heap.size + 1 + 1) 3 (.int .i64 0) := CB.other (CB.set D0.out _) _ _ (by show w.heap.size + 1 + 1 ≠ w.heap.size + 1 + 1 + 1; omega)
    have e1 : CB ((W.setCell ⟨w.heap.size + 1 + 1, 0, none⟩ (.int .i64 0)).setCell ⟨w.heap.size + 1 + 1 + 1, 0, none⟩ (.int .i64 0)) (w.heap.size + 1 + 1 + 1) 3 (.int .i64 0) := CB.set (CB.other D1.out _ _ (by show w.heap.size + 1 + 1 + 1 ≠ w.heap.size + 1 + 1; omega)) _
    have B5 : Below w.heap.size w ((W.setCell ⟨w.heap.size + 1 + 1, 0, none⟩ (.int .i64 0)).setCell ⟨w.heap.size + 1 + 1 + 1, 0, none⟩ (.int .i64 0)) := (HBB.out.setCell (p := ⟨w.heap.size + 1 + 1, 0, none⟩) (by show w.heap.size ≤ w.heap.size + 1 + 1; omega) _).setCell (p := ⟨w.heap.size + 1 + 1 + 1, 0, none⟩) (by show w.heap.size ≤ w.heap.size + 1 + 1 + 1; omega) _
    generalize (W.setCell ⟨w.heap.size + 1 + 1, 0, none⟩ (.int .i64 0)).setCell ⟨w.heap.size + 1 + 1 + 1, 0, none⟩ (.int .i64 0) = V at hK' e0 e1 B5 ⊢
    refine ⟨by simp, .inl ⟨_, _, rfl, run_takeDeferred hK', ?_⟩⟩
    have p0 := (cb_put (D := D) (.deferred none) e0 (by omega)).cell
    have p1 := (cb_put (D := D) (.deferred none) e1 (by omega)).cell
    refine ⟨.tuple #[.int .i64 0, .int .i64 0], by simp [results, Try.results40, go_sem, p0, p1], rfl, B5.trans (belowK_b (w := w) (Nat.le_refl _) V D _ _ (by omega) hK' rfl rfl)⟩
  case stop =>
    rintro D q pre W hD hpre ⟨⟨y, ⟨rfl, hs⟩, e0, e1⟩, hB⟩ hK
    obtain ⟨rfl, rfl⟩ : a = firstS ⟨c, h, x, ls⟩ y.1 ∧ b = manyS ⟨c, h, x, ls⟩ y.1 := by
      have := HAB.out
      rw [← hs, range_of y] at this
      injection this with z1 z2
      exact ⟨z1.symm, z2.symm⟩
    gi_wp2_with fail
    refine ⟨by simp, .inl ⟨_, _, rfl, run_takeDeferred hK, ?_⟩⟩
    have p0 := (cb_put (D := D) (.deferred none) e0 (by omega)).cell
    have p1 := (cb_put (D := D) (.deferred none) e1 (by omega)).cell
    refine ⟨.tuple #[.int .i64 (firstS ⟨c, h, x, ls⟩ y.1), .int .i64 (manyS ⟨c, h, x, ls⟩ y.1)], by simp [results, Try.results40, go_sem, p0, p1], rfl, hB.trans (belowK_b (w := w) (Nat.le_refl _) W D _ _ (by omega) hK rfl rfl)⟩

end Go.Proofs.Ytnfmpladdfgadaa

namespace Go.Proofs.Ytnfmpladdfgadaa
open Go.RowKit

theorem grange_bd {c h x : Int} {ls : List Ly} (hn : ls.length ≤ 60) (s : Int) : (0 ≤ (rangeN ⟨c, h, x, ls⟩ s).1 ∧ (rangeN ⟨c, h, x, ls⟩ s).1 ≤ 100000000) ∧ (0 ≤ (rangeN ⟨c, h, x, ls⟩ s).2 ∧ (rangeN ⟨c, h, x, ls⟩ s).2 ≤ 2000000) := by
  unfold rangeN
  split
  · have l60 : (stagesN ⟨c, h, x, ls⟩).length ≤ 60 := by
      unfold stagesN
      split
      · have := stK_len ls ls.length; show (stK ls ls.length).length ≤ 60; omega
      · simp
    have := tot_bd (((stagesN ⟨c, h, x, ls⟩).take s.toNat).map (atN ⟨c, h, x, ls⟩)) (fun y hy => by obtain ⟨i, _, rfl⟩ := List.mem_map.1 hy; exact at_ok _ _)
    rw [List.length_map, List.length_take] at this
    have : min s.toNat (stagesN ⟨c, h, x, ls⟩).length ≤ 60 := by omega
    have p := (at_ok ⟨c, h, x, ls⟩ ((stagesN ⟨c, h, x, ls⟩).getD s.toNat 0)).p
    exact ⟨⟨by omega, by omega⟩, ⟨p.1, by have := p.2; omega⟩⟩
  · exact ⟨⟨by decide, by decide⟩, ⟨by decide, by decide⟩⟩

set_option maxHeartbeats 2000000 in
set_option maxRecDepth 100000 in
theorem gline8 (c h x : Int) (A : Option Addr) (cA n : Nat) (ls : List Ly) (s : Int) (a b : Int) (hab : lineN ⟨c, h, x, ls⟩ s = (a, b)) (w : World) (hx : Rl w A ls) (ln : n = ls.length) (hn : n ≤ 60) :
    Calls Try.prog 42 #[.agg #[.int .i64 c, .int .i64 h, .int .i64 x, .slice A n cA], .int .i64 s] w fun e w' => e = .returned (.tuple #[.int .i64 a, .int .i64 b]) ∧ Below w.heap.size w w' := by
  have HAB := Lib.hid hab
  obtain ⟨er, her⟩ : ∃ er, er = errN ⟨c, h, x, ls⟩ := ⟨_, rfl⟩
  have HER := Lib.hid her
  obtain ⟨ra, hra⟩ : ∃ ra, ra = (rangeN ⟨c, h, x, ls⟩ s).1 := ⟨_, rfl⟩
  obtain ⟨rb, hrb⟩ : ∃ rb, rb = (rangeN ⟨c, h, x, ls⟩ s).2 := ⟨_, rfl⟩
  have HRA := Lib.hid hra; have HRB := Lib.hid hrb
  have bd := grange_bd (c := c) (h := h) (x := x) (ls := ls) (by rw [← ln]; exact hn) s
  rw [← hra, ← hrb] at bd
  obtain ⟨⟨ra0, ra1⟩, ⟨rb0, rb1⟩⟩ := bd
  have RNG : Hid (∀ w', Rl w' A ls → n = ls.length → Calls Try.prog 40 #[.agg #[.int .i64 c, .int .i64 h, .int .i64 x, .slice A n cA], .int .i64 s] w' fun e w'' => e = .returned (.tuple #[.int .i64 ra, .int .i64 rb]) ∧ Below w'.heap.size w' w'') := fun w' z1 z2 =>
    grange8 c h x A cA n ls s ra rb (by rw [hra, hrb]) w' z1 z2 hn
  clear hab her hra hrb
  have HX := Lib.hid hx; have LX := Lib.hid ln
  have hn1 : n ≤ 1000 := by omega
  clear hx ln
  go_enter Try.func42, Try.ntmps42
  go_wp2_with fail
  refine (shapes_any c h x A cA n ls _ (HX.out.below ((Below.refl _ w).alloc (Nat.le_refl _) _)) LX.out hn1).mono ?_
  rintro e w1 ⟨A1, k1, n1, rfl, hn1', hR, hb, hd1, hd2⟩
  rw [← HER.out]
  have B1 := Lib.hid (chain ((Below.refl w.heap.size w).alloc (Nat.le_refl _) _) hb)
  have N1 := Lib.hid ((NB.new w c h x (.slice A n cA)).below hb)
  obtain ⟨c0, c1, c2, c3⟩ := N1.out.cells
  have R1 := Lib.hid hR; have L1 := Lib.hid hn1'
  clear hb hR hd1 hd2 hn1'
  by_cases h0 : ¬ er = 0
  · have b0 : (er == 0) = false := by simpa using h0
    obtain ⟨ea, eb⟩ : 2 * ra = a ∧ 2 * rb = b := by
      have := HAB.out
      rw [show lineN ⟨c, h, x, ls⟩ s = (2 * (rangeN ⟨c, h, x, ls⟩ s).1, 2 * (rangeN ⟨c, h, x, ls⟩ s).2) from if_neg (by rw [← HER.out]; exact fun z => h0 z.1)] at this
      injection this with z1 z2
      exact ⟨by rw [HRA.out]; exact z1, by rw [HRB.out]; exact z2⟩
    have v1 : IntKind.i64.wrap (2 * ra) = a := by rw [IntWalk.i64_in _ (by omega)]; exact ea
    have v2 : wrap64 (2 * ra) = a := by rw [IntWalk.wrap64_in _ (by omega)]; exact ea
    have v3 : IntKind.i64.wrap (2 * rb) = b := by rw [IntWalk.i64_in _ (by omega)]; exact eb
    have v4 : wrap64 (2 * rb) = b := by rw [IntWalk.wrap64_in _ (by omega)]; exact eb
    clear h0 ea eb
    go_wp2_with fail
    refine (RNG.out _ (HX.out.below B1.out) LX.out).mono ?_
    rintro e w2 ⟨rfl, hb⟩
    have B2 := Lib.hid (chain B1.out hb)
    clear hb
    go_wp2_with fail
    go_ret2
    exact ⟨rfl, B2.out⟩
  have h0 : er = 0 := by omega
  have b0 : (er == 0) = true := by rw [h0]; rfl
  have HE : Hid (errN ⟨c, h, x, ls⟩ = 0) := HER.out.symm.trans h0
  clear h0
  go_wp2_with fail
  refine (gstages8 c h x A cA n ls _ (HX.out.below B1.out) LX.out hn).mono ?_
  rintro e w2 ⟨A2, k2, n2, rfl, hn2, hR2, hb, hd1, hd2⟩
  have B2 := Lib.hid (chain B1.out hb)
  have N2 := Lib.hid (N1.out.below hb)
  have R2 := Lib.hid (R1.out.below hb)
  have L2 := Lib.hid hn2
  clear hb hR2 hn2 hd1 hd2 c0 c1 c2 c3
  obtain ⟨c0, c1, c2, c3⟩ := N2.out.cells
  by_cases hs : ¬ s = (n2 : Int)
  · have b1 : (s == (n2 : Int)) = false := by simpa using hs
    obtain ⟨ea, eb⟩ : 2 * ra = a ∧ 2 * rb = b := by
      have := HAB.out
      rw [show lineN ⟨c, h, x, ls⟩ s = (2 * (rangeN ⟨c, h, x, ls⟩ s).1, 2 * (rangeN ⟨c, h, x, ls⟩ s).2) from if_neg (by rw [← L2.out]; exact fun z => hs z.2)] at this
      injection this with z1 z2
      exact ⟨by rw [HRA.out]; exact z1, by rw [HRB.out]; exact z2⟩
    have v1 : IntKind.i64.wrap (2 * ra) = a := by rw [IntWalk.i64_in _ (by omega)]; exact ea
    have v2 : wrap64 (2 * ra) = a := by rw [IntWalk.wrap64_in _ (by omega)]; exact ea
    have v3 : IntKind.i64.wrap (2 * rb) = b := by rw [IntWalk.i64_in _ (by omega)]; exact eb
    have v4 : wrap64 (2 * rb) = b := by rw [IntWalk.wrap64_in _ (by omega)]; exact eb
    clear hs ea eb
    go_wp2_with fail
    refine (RNG.out _ (HX.out.below B2.out) LX.out).mono ?_
    rintro e w3 ⟨rfl, hb⟩
    have B3 := Lib.hid (chain B2.out hb)
    clear hb
    go_wp2_with fail
    go_ret2
    exact ⟨rfl, B3.out⟩
  have hs : s = (n2 : Int) := Decidable.not_not.1 hs
  have b1 : (s == (n2 : Int)) = true := by rw [hs]; simp
  obtain ⟨T, hT⟩ : ∃ T, T = endS ⟨c, h, x⟩ ls := ⟨_, rfl⟩
  obtain ⟨Y, hY⟩ : ∃ Y, Y = totP (knN ⟨c, h, x, ls⟩) := ⟨_, rfl⟩
  obtain ⟨ea, eb⟩ : 2 * Y = a ∧ T.n = b := by
    have := HAB.out
    rw [show lineN ⟨c, h, x, ls⟩ s = (2 * totP (knN ⟨c, h, x, ls⟩), (endS ⟨c, h, x⟩ ls).n) from if_pos ⟨HE.out, by rw [← L2.out]; exact hs⟩] at this
    injection this with z1 z2
    exact ⟨by rw [hY]; exact z1, by rw [hT]; exact z2⟩
  obtain ⟨y0, y1⟩ : 0 ≤ Y ∧ Y ≤ 512 := by
    obtain ⟨r, f3, t, _, p5, _⟩ := ok_all HE.out
    have r : (⟨c, h, x⟩ : Sh).r = true := r
    rw [hY, (tots HE.out).2]
    exact ⟨(sums_nn r f3 t).2, p5⟩
  have HTR : Hid (T.r = true) := by
    obtain ⟨r, f3, t, _, _, _⟩ := ok_all HE.out
    rw [hT]; exact end_right ls ⟨c, h, x⟩ r f3 t
  have v1 : IntKind.i64.wrap (2 * Y) = a := by rw [IntWalk.i64_in _ (by omega)]; exact ea
  have v2 : wrap64 (2 * Y) = a := by rw [IntWalk.wrap64_in _ (by omega)]; exact ea
  have hR := R2.out
  have hl1 := L1.out
  rw [shN_ok HE.out] at hR hl1
  rw [sh_len, ← LX.out] at hl1
  obtain ⟨bS, oS, rfl, lS, qS⟩ := hR (by rw [sh_len]; omega)
  have gT : (shL ⟨c, h, x⟩ ls)[n]? = some T := by
    have := sh_get ls ⟨c, h, x⟩ n (by rw [← LX.out]; exact Nat.le_refl _)
    rw [LX.out, List.take_length, ← hT] at this
    rw [LX.out]; exact this
  obtain ⟨t0, t1, t2⟩ := sh_at qS gT
  have i1 : (n : Int) < (n1 : Int) := by omega
  have i2 : n < n1 := by omega
  have i3 : (0 : Int) ≤ (n : Int) := by omega
  have v3 : IntKind.i64.wrap ((n1 : Int) - 1) = (n : Int) := by rw [IntWalk.i64_in _ (by omega)]; omega
  have v4 : wrap64 ((n1 : Int) - 1) = (n : Int) := by rw [IntWalk.wrap64_in _ (by omega)]; omega
  have PS : Hid (∀ w, Calls Try.prog 78 #[.agg #[.int .i64 T.c, .int .i64 T.h, .int .i64 T.x]] w fun e w' => e = .returned (.int .i64 b) ∧ Below w.heap.size w w') := fun w => by rw [← eb]; exact gsize8 T HTR.out w
  have PT : Hid (∀ w', Rl w' A ls → n = ls.length → Calls Try.prog 48 #[.agg #[.int .i64 c, .int .i64 h, .int .i64 x, .slice A n cA]] w' fun e w'' => e = .returned (.int .i64 Y) ∧ Below w'.heap.size w' w'') := fun w' z1 z2 => by rw [hY]; exact gtotal8 c h x A cA n ls w' z1 z2 hn
  have HC0 : Hid (Below w2.heap.size w2 w2.drew) := below_drew w2
  have lN := N2.out.lt
  have tok1 : True := trivial
  clear hs hT hY ea eb hR hl1 qS gT y0 y1 ra0 ra1 rb0 rb1
  go_wp2_with fail
  go_region_held3 (fun w' => w'.cell? ⟨w.heap.size, 0, none⟩ = some (.int .i64 c) ∧ w'.cell? ⟨w.heap.size, 1, none⟩ = some (.int .i64 h) ∧ w'.cell? ⟨w.heap.size, 2, none⟩ = some (.int .i64 x) ∧ w'.cell? ⟨w.heap.size, 3, none⟩ = some (.slice A n cA) ∧ w'.cell? ⟨bS, oS + n * 3, none⟩ = some (.int .i64 T.c) ∧ w'.cell? ⟨bS, oS + n * 3 + 1, none⟩ = some (.int .i64 T.h) ∧ w'.cell? ⟨bS, oS + n * 3 + 2, none⟩ = some (.int .i64 T.x))
    (first | exact ⟨g0, g1, g2, g3, g4, g5, g6⟩ | go_keep)
    (first
      | ((have _t := tok1; clear tok1; go_at_call 48; (with_reducible refine (PT.out _ (HX.out.below (chain B2.out HC0.out)) LX.out).mono ?_); rintro e w3 ⟨rfl, hb3⟩
          have HC1 := Lib.hid (HC0.out.trans (hb3.mono HC0.out.size))
          have g0 := (HC1.out.cell (p := ⟨w.heap.size, 0, none⟩) lN).trans c0
          have g1 := (HC1.out.cell (p := ⟨w.heap.size, 1, none⟩) lN).trans c1
          have g2 := (HC1.out.cell (p := ⟨w.heap.size, 2, none⟩) lN).trans c2
          have g3 := (HC1.out.cell (p := ⟨w.heap.size, 3, none⟩) lN).trans c3
          have g4 := (HC1.out.cell (p := ⟨bS, oS + n * 3, none⟩) lS).trans t0
          have g5 := (HC1.out.cell (p := ⟨bS, oS + n * 3 + 1, none⟩) lS).trans t1
          have g6 := (HC1.out.cell (p := ⟨bS, oS + n * 3 + 2, none⟩) lS).trans t2
          have tok2 : True := trivial
          clear hb3))
      | ((have _t := tok2; clear tok2; go_at_call 78; (with_reducible refine (PS.out _).mono ?_); rintro e w4 ⟨rfl, hb4⟩
          have HC2 := Lib.hid (HC1.out.trans (hb4.mono HC1.out.size))
          clear g0 g1 g2 g3 g4 g5 g6
          have g0 := (HC2.out.cell (p := ⟨w.heap.size, 0, none⟩) lN).trans c0
          have g1 := (HC2.out.cell (p := ⟨w.heap.size, 1, none⟩) lN).trans c1
          have g2 := (HC2.out.cell (p := ⟨w.heap.size, 2, none⟩) lN).trans c2
          have g3 := (HC2.out.cell (p := ⟨w.heap.size, 3, none⟩) lN).trans c3
          have g4 := (HC2.out.cell (p := ⟨bS, oS + n * 3, none⟩) lS).trans t0
          have g5 := (HC2.out.cell (p := ⟨bS, oS + n * 3 + 1, none⟩) lS).trans t1
          have g6 := (HC2.out.cell (p := ⟨bS, oS + n * 3 + 2, none⟩) lS).trans t2
          clear hb4))
      | fail)
  go_wp2_with fail
  go_ret2
  exact ⟨rfl, chain B2.out HC2.out⟩

end Go.Proofs.Ytnfmpladdfgadaa

namespace Go.Proofs.Ytnfmpladdfgadaa
open Go.RowKit Go.Shelf
attribute [local go_sem] Oper.semAt_some

/-- A gate in a variable. -/
def GB (w : World) (b : Nat) (G : Gt) : Prop := w.heap[b]? = some (.cells #[.int .i64 G.l, .int .i64 G.a, .int .i64 G.t, .int .i64 G.x, .int .i64 G.w] 54 (0, 0))
theorem GB.lt {w : World} {b : Nat} {G : Gt} (H : GB w b G) : b < w.heap.size := (Array.getElem?_eq_some_iff.1 H).1
theorem GB.below {w w' : World} {b : Nat} {G : Gt} (H : GB w b G) (hb : Below w.heap.size w w') : GB w' b G := (hb.block b H.lt).trans H
theorem GB.cells {w : World} {b : Nat} {G : Gt} (H : GB w b G) : w.cell? ⟨b, 0, none⟩ = some (.int .i64 G.l) ∧ w.cell? ⟨b, 1, none⟩ = some (.int .i64 G.a) ∧ w.cell? ⟨b, 2, none⟩ = some (.int .i64 G.t) ∧ w.cell? ⟨b, 3, none⟩ = some (.int .i64 G.x) ∧ w.cell? ⟨b, 4, none⟩ = some (.int .i64 G.w) :=
  ⟨by rw [Lib.cell_of_heap H]; rfl, by rw [Lib.cell_of_heap H]; rfl, by rw [Lib.cell_of_heap H]; rfl, by rw [Lib.cell_of_heap H]; rfl, by rw [Lib.cell_of_heap H]; rfl⟩
theorem GB.frozen {w : World} {b : Nat} {G : Gt} (H : GB w b G) : w.frozen? ⟨b, 0, none⟩ = false ∧ w.frozen? ⟨b, 1, none⟩ = false ∧ w.frozen? ⟨b, 2, none⟩ = false ∧ w.frozen? ⟨b, 3, none⟩ = false ∧ w.frozen? ⟨b, 4, none⟩ = false :=
  ⟨Lib.frozen_of_heap H 0, Lib.frozen_of_heap H 1, Lib.frozen_of_heap H 2, Lib.frozen_of_heap H 3, Lib.frozen_of_heap H 4⟩
theorem GB.set5 {w : World} {b : Nat} {G : Gt} (H : GB w b G) (g : Gt) : GB (((((w.setCell ⟨b, 0, none⟩ (.int .i64 g.l)).setCell ⟨b, 1, none⟩ (.int .i64 g.a)).setCell ⟨b, 2, none⟩ (.int .i64 g.t)).setCell ⟨b, 3, none⟩ (.int .i64 g.x)).setCell ⟨b, 4, none⟩ (.int .i64 g.w)) b g :=
  Lib.heap_setCell_same (i := 4) (Lib.heap_setCell_same (i := 3) (Lib.heap_setCell_same (i := 2) (Lib.heap_setCell_same (i := 1) (Lib.heap_setCell_same (i := 0) H _) _) _) _) _
theorem GB.other {w : World} {b : Nat} {G : Gt} (H : GB w b G) (a : Addr) (u : Value) (h : b ≠ a.block) : GB (w.setCell a u) b G := (Below.heap_setCell w a u b h).trans H
theorem gb_put {W : World} {b D : Nat} {G : Gt} (o : Obj) (h : GB W b G) (hD : b ≠ D) : GB (W.putObj D o) b G := (World.putObj_heap_other hD).trans h
theorem cb_set5 {w : World} {b k T : Nat} {v : Value} (H : CB w k T v) (hk : k ≠ b) (v0 v1 v2 v3 v4 : Value) : CB (((((w.setCell ⟨b, 0, none⟩ v0).setCell ⟨b, 1, none⟩ v1).setCell ⟨b, 2, none⟩ v2).setCell ⟨b, 3, none⟩ v3).setCell ⟨b, 4, none⟩ v4) k T v :=
  CB.other (CB.other (CB.other (CB.other (CB.other H _ _ hk) _ _ hk) _ _ hk) _ _ hk) _ _ hk
theorem below_five {w0 w : World} {B b : Nat} (H : Below B w0 w) (hb : B ≤ b) (v0 v1 v2 v3 v4 : Value) :
    Below B w0 (((((w.setCell ⟨b, 0, none⟩ v0).setCell ⟨b, 1, none⟩ v1).setCell ⟨b, 2, none⟩ v2).setCell ⟨b, 3, none⟩ v3).setCell ⟨b, 4, none⟩ v4) :=
  ((((H.setCell (p := ⟨b, 0, none⟩) hb _).setCell (p := ⟨b, 1, none⟩) hb _).setCell (p := ⟨b, 2, none⟩) hb _).setCell (p := ⟨b, 3, none⟩) hb _).setCell (p := ⟨b, 4, none⟩) hb _
theorem keeps_five (w : World) (b : Nat) (v0 v1 v2 v3 v4 : Value) : KeepsOthers w (((((w.setCell ⟨b, 0, none⟩ v0).setCell ⟨b, 1, none⟩ v1).setCell ⟨b, 2, none⟩ v2).setCell ⟨b, 3, none⟩ v3).setCell ⟨b, 4, none⟩ v4) :=
  ((((KeepsOthers.setCell _ _ _).trans (KeepsOthers.setCell _ _ _)).trans (KeepsOthers.setCell _ _ _)).trans (KeepsOthers.setCell _ _ _)).trans (KeepsOthers.setCell _ _ _)
theorem ret_gate {w V : World} {D b bb T : Nat} {G : Gt} {v : Value} (h1 : GB V b G) (h2 : CB V bb T v) (h3 : Below w.heap.size w V) (h4 : V.heap[D]? = some (.deferred (some []))) (hb : b ≠ D) (hbb : bb ≠ D) (hD : w.heap.size ≤ D) :
    (V.putObj D (.deferred none)).cell? ⟨b, 0, none⟩ = some (.int .i64 G.l) ∧ (V.putObj D (.deferred none)).cell? ⟨b, 1, none⟩ = some (.int .i64 G.a) ∧ (V.putObj D (.deferred none)).cell? ⟨b, 2, none⟩ = some (.int .i64 G.t) ∧ (V.putObj D (.deferred none)).cell? ⟨b, 3, none⟩ = some (.int .i64 G.x) ∧ (V.putObj D (.deferred none)).cell? ⟨b, 4, none⟩ = some (.int .i64 G.w) ∧ (V.putObj D (.deferred none)).cell? ⟨bb, 0, none⟩ = some v ∧ Below w.heap.size w (V.putObj D (.deferred none)) := by
  obtain ⟨a0, a1, a2, a3, a4⟩ := (gb_put (.deferred none) h1 hb).cells
  exact ⟨a0, a1, a2, a3, a4, (cb_put (.deferred none) h2 hbb).cell, h3.trans (belowK_b (w := w) (Nat.le_refl _) V D _ _ hD h4 rfl rfl)⟩
theorem terms_bd {c h x : Int} {ls : List Ly} (y : St ⟨c, h, x, ls⟩) (p : Int) : (termsN ⟨c, h, x, ls⟩ (y.1 : Nat) p).length ≤ 1152 ∧ (0 < (termsN ⟨c, h, x, ls⟩ (y.1 : Nat) p).length → 0 ≤ p ∧ p ≤ 128) := by
  by_cases hp : hasK (atN ⟨c, h, x, ls⟩ (y.1 : Nat)) p = true
  · rw [termsN_is hp]
    have := terms_len (isS_good y.2) p
    have := per_bd (isS_good y.2)
    have := has_bd hp
    have := size_bd (atN ⟨c, h, x, ls⟩ (y.1 : Nat)).u
    exact ⟨by omega, fun _ => ⟨by omega, by omega⟩⟩
  · rw [show termsN ⟨c, h, x, ls⟩ (y.1 : Nat) p = [] from if_neg hp]
    exact ⟨by simp, fun h => absurd h (by simp)⟩

set_option maxHeartbeats 8000000 in
set_option maxRecDepth 100000 in
theorem ggate8 (c h x : Int) (A : Option Addr) (cA n : Nat) (ls : List Ly) (g : Int) (w : World) (hx : Rl w A ls) (ln : n = ls.length) (hn : n ≤ 60) :
    Calls Try.prog 44 #[.agg #[.int .i64 c, .int .i64 h, .int .i64 x, .slice A n cA], .int .i64 g] w fun e w' => e = .returned (.tuple #[.agg #[.int .i64 (gateN ⟨c, h, x, ls⟩ g).l, .int .i64 (gateN ⟨c, h, x, ls⟩ g).a, .int .i64 (gateN ⟨c, h, x, ls⟩ g).t, .int .i64 (gateN ⟨c, h, x, ls⟩ g).x, .int .i64 (gateN ⟨c, h, x, ls⟩ g).w], .bool (hasG ⟨c, h, x, ls⟩ g)]) ∧ Below w.heap.size w w' := by
  have HX := Lib.hid hx; have LX := Lib.hid ln
  have l60 : ls.length ≤ 60 := by rw [← ln]; exact hn
  clear hx ln
  obtain ⟨m, hm⟩ : ∃ m : Nat, 9 ≤ m := ⟨9, Nat.le_refl _⟩
  refine (callsIn_wide (n := m)).1 ?_
  refine callsIn_of_wp_marks Try.func44 rfl trivial ?_ rfl
  simp only [Try.ntmps44, List.size_toArray, List.length_cons, List.length_nil, Nat.reduceAdd, Nat.reduceSub, Array.replicate_succ, Array.replicate_zero, List.push_toArray, List.append_toArray, List.nil_append, List.cons_append]
  gi_wp2_with fail
  refine ⟨trivial, fun z => by simp [Fence.wide] at z, (callsIn_wide.2 (gspans8 c h x (.slice A n cA) _)).mono ?_⟩
  rintro e w1 ⟨rfl, rfl⟩
  gi_wp2_with fail
  obtain ⟨os, hos⟩ : ∃ os : List Obj, os = [.cells #[.int .i64 c, .int .i64 h, .int .i64 x, .slice A n cA] 26, .cells #[.int .i64 g] 3, .cells #[.int .i64 0, .int .i64 0, .int .i64 0, .int .i64 0, .int .i64 0] 54, .cells #[.bool false] 4, .cells #[.int .i64 c, .int .i64 h, .int .i64 x, .slice A n cA] 26] := ⟨_, rfl⟩
  have bM : NB (os.foldl World.alloc w) (w.heap.size) c h x (.slice A n cA) := tow_at os w 0 _ (by rw [hos]; rfl)
  have bS : CB (os.foldl World.alloc w) (w.heap.size + 1) 3 (.int .i64 g) := tow_at os w 1 _ (by rw [hos]; rfl)
  have bG : GB (os.foldl World.alloc w) (w.heap.size + 1 + 1) Gt.z := tow_at os w 2 _ (by rw [hos]; rfl)
  have bB : CB (os.foldl World.alloc w) (w.heap.size + 1 + 1 + 1) 4 (.bool false) := tow_at os w 3 _ (by rw [hos]; rfl)
  have bN : NB (os.foldl World.alloc w) (w.heap.size + 1 + 1 + 1 + 1) c h x (.slice A n cA) := tow_at os w 4 _ (by rw [hos]; rfl)
  have hB0 := tow_below os w
  have hsz : (os.foldl World.alloc w).heap.size = w.heap.size + 5 := by rw [tow_size, hos]; rfl
  obtain ⟨W0, hW0⟩ : ∃ W0, os.foldl World.alloc w = W0 := ⟨_, rfl⟩
  have eW : [.cells #[.int .i64 c, .int .i64 h, .int .i64 x, .slice A n cA] 26, .cells #[.int .i64 g] 3, .cells #[.int .i64 0, .int .i64 0, .int .i64 0, .int .i64 0, .int .i64 0] 54, .cells #[.bool false] 4, .cells #[.int .i64 c, .int .i64 h, .int .i64 x, .slice A n cA] 26].foldl World.alloc w = W0 := by rw [← hos]; exact hW0
  rw [hW0] at bM bS bG bB bN hB0 hsz
  simp only [List.foldl_cons, List.foldl_nil] at eW
  rw [eW]
  clear hW0 eW hos os
  refine wpIn_rangeFunc_ownH (F := Fence.wide) rfl (by omega) (gf := 97) (lb := #[.pointer (some ⟨w.heap.size + 1 + 1 + 1 + 1, 0, none⟩)]) rfl trivial (enters_of Try.func97 (by kernel_rfl) rfl)
    (spans1_stops (m - 1) c h x A cA n ls w HX.out LX.out hn (w.heap.size + 1 + 1 + 1 + 1) (fun k _ => k = w.heap.size + 1 + 1 ∨ k = w.heap.size + 1 + 1 + 1) W0 bN (by omega) (fun _ _ => by omega) hB0) (fun h k => h.trans k) (fun W l o o' => Kx.put (by omega) W l o o') (Below.refl _ _) (fun _ => rfl)
    (fun pre W => (((((∀ y ∈ pre, ¬ cov ⟨c, h, x, ls⟩ y.1 g) ∧ CB W (w.heap.size + 1) 3 (.int .i64 g)) ∧ NB W (w.heap.size) c h x (.slice A n cA)) ∧ GB W (w.heap.size + 1 + 1) Gt.z) ∧ CB W (w.heap.size + 1 + 1 + 1) 4 (.bool false)) ∧ Below w.heap.size w W)
    (fun q _ W => (((q = .ret ∧ hasG ⟨c, h, x, ls⟩ g = true) ∧ GB W (w.heap.size + 1 + 1) (gateN ⟨c, h, x, ls⟩ g)) ∧ CB W (w.heap.size + 1 + 1 + 1) 4 (.bool true)) ∧ Below w.heap.size w W)
    (OwnFrom.and (OwnFrom.and (OwnFrom.and (OwnFrom.and (OwnFrom.and (ownFrom_pure _ _) (Own.from (cb_own _ _ _) _)) (Own.from (cells_own _ _ _ _) _)) (Own.from (cells_own _ _ _ _) _)) (Own.from (cb_own _ _ _) _)) (ownFrom_below (Nat.le_refl _) (by omega)))
    (fun q => OwnFrom.and (OwnFrom.and (OwnFrom.and (ownFrom_pure _ _) (Own.from (cells_own _ _ _ _) _)) (Own.from (cb_own _ _ _) _)) (ownFrom_below (Nat.le_refl _) (by omega)))
    ⟨⟨⟨⟨⟨by simp, bS⟩, bM⟩, bG⟩, bB⟩, hB0⟩
    (fun y a' W => ∃ Bx, w.heap.size + 1 + 1 + 1 < Bx ∧ PB W Bx ((y.1 : Nat) : Int) (firstS ⟨c, h, x, ls⟩ y.1) (manyS ⟨c, h, x, ls⟩ y.1) (eachS ⟨c, h, x, ls⟩ y.1) ∧ a' = { tmps := #[.agg #[.int .i64 c, .int .i64 h, .int .i64 x, .slice A n cA], .int .i64 g, .pointer (some ⟨w.heap.size, 0, none⟩), .pointer (some ⟨w.heap.size + 1, 0, none⟩), .pointer (some ⟨w.heap.size + 1 + 1, 0, none⟩), .pointer (some ⟨w.heap.size + 1 + 1 + 1, 0, none⟩), undef, .pointer (some ⟨Bx, 0, none⟩), undef, undef, .agg #[.int .i64 c, .int .i64 h, .int .i64 x, .slice A n cA], .func (.func 97) #[] #[.pointer (some ⟨w.heap.size + 1 + 1 + 1 + 1, 0, none⟩)], .int .i64 (numS ⟨c, h, x, ls⟩ y.1), .agg #[.int .i64 ((y.1 : Nat) : Int), .int .i64 (firstS ⟨c, h, x, ls⟩ y.1), .int .i64 (manyS ⟨c, h, x, ls⟩ y.1), .int .i64 (eachS ⟨c, h, x, ls⟩ y.1)], undef, undef, undef, undef, undef, undef, undef, undef, undef, undef, undef, undef, undef, undef, undef, undef, undef, undef, undef, undef, undef, undef, undef, undef, undef, undef, undef, undef, undef, undef], defers := [] })
    (fun y a' _ P1 P2 row hs hg hr => by obtain ⟨Bx, e1, e2, e3⟩ := hs; exact ⟨Bx, e1, cells_own Bx _ _ _ () P1 P2 row e2 hg (fun r e => (hr r e).2), e3⟩)
    ?assign ?body ?done ?stop
  case assign =>
    rintro l pre y W K ⟨⟨⟨⟨⟨hp, dS⟩, dM⟩, dG⟩, dB⟩, hB⟩ hK
    simp only [encS]
    gi_wp2_with fail
    have al := (Below.refl W.heap.size W).alloc (Nat.le_refl _) (.cells #[.int .i64 ((y.1 : Nat) : Int), .int .i64 (firstS ⟨c, h, x, ls⟩ y.1), .int .i64 (manyS ⟨c, h, x, ls⟩ y.1), .int .i64 (eachS ⟨c, h, x, ls⟩ y.1)] 107)
    exact hK _ _ ((KeepsOthers.alloc _ _).from _) ((Kx.refl _ _ W).alloc hB.size _) ⟨⟨⟨⟨⟨hp, dS.below al⟩, dM.below al⟩, dG.below al⟩, dB.below al⟩, hB.alloc hB.size _⟩ ⟨W.heap.size, by have := dB.lt; omega, heap_alloc_new W _, rfl⟩
  case body =>
    rintro l pre y a' W hl ⟨r, hr⟩ ⟨⟨⟨⟨⟨hp, dS⟩, dM⟩, dG⟩, dB⟩, hB⟩ ⟨Bx, hBx, bX, rfl⟩ hlt
    obtain ⟨f1, f2, f3, f4, f5, f6, f7⟩ := st_facts l60 y
    have f9 := gates_bd (c := c) (h := h) (x := x) (ls := ls)
    obtain ⟨fi, hfi⟩ : ∃ fi, fi = firstS ⟨c, h, x, ls⟩ y.1 := ⟨_, rfl⟩
    obtain ⟨ma, hma⟩ : ∃ ma, ma = manyS ⟨c, h, x, ls⟩ y.1 := ⟨_, rfl⟩
    obtain ⟨ea, hea⟩ : ∃ ea, ea = eachS ⟨c, h, x, ls⟩ y.1 := ⟨_, rfl⟩
    obtain ⟨nu, hnu⟩ : ∃ nu, nu = numS ⟨c, h, x, ls⟩ y.1 := ⟨_, rfl⟩
    have CV : cov ⟨c, h, x, ls⟩ y.1 g ↔ (fi ≤ g ∧ g < fi + ma) := by rw [hfi, hma]
    rw [← hfi] at f2
    rw [← hma] at f3 f6
    rw [← hfi, ← hma] at f4
    rw [← hea] at f5 f6
    rw [← hfi, ← hma, ← hea] at bX
    rw [← hfi, ← hma, ← hea, ← hnu]
    have ea9 : ea ≤ 512 := by
      have := Int.mul_le_mul_of_nonneg_right f7 (show 0 ≤ ea by omega)
      omega
    have ma9 : ma ≤ 512 := by omega
    have fi9 : fi ≤ 512 := by omega
    have HCV := Lib.hid CV
    obtain ⟨x0, x1, x2, x3⟩ := bX.cells
    have cg := dS.cell
    obtain ⟨n0, n1, n2, n3⟩ := dM.cells
    have lX := bX.lt
    have lM := dM.lt
    have szW := hB.size
    have v1 : IntKind.i64.wrap (fi + ma) = fi + ma := by rw [IntWalk.i64_in _ (by omega)]
    have v2 : wrap64 (fi + ma) = fi + ma := by rw [IntWalk.wrap64_in _ (by omega)]
    have DS := Lib.hid dS; have DM := Lib.hid dM; have DG := Lib.hid dG; have DB := Lib.hid dB; have HBB := Lib.hid hB; have BX := Lib.hid bX; have HP := Lib.hid hp; have HR := Lib.hid hr
    have FI := Lib.hid hfi; have MA := Lib.hid hma; have EA := Lib.hid hea
    clear CV f1 f4 f6 f7 f9 dS dM dG dB hB bX hp hr hfi hma hea hnu hlt
    by_cases g1 : g < fi
    · have e1 : decide (g < fi) = true := decide_eq_true g1
      have NC : Hid (¬ cov ⟨c, h, x, ls⟩ y.1 g) := fun z => by have := HCV.out.1 z; omega
      clear g1
      gi_wp2_with fail
      exact ⟨KeepsFrom.refl _ _, Kx.refl _ _ _, ⟨⟨⟨⟨⟨fun z hz => (List.mem_append.1 hz).elim (HP.out z) (fun e => by simp at e; subst e; exact NC.out), DS.out⟩, DM.out⟩, DG.out⟩, DB.out⟩, HBB.out⟩⟩
    have e1 : decide (g < fi) = false := decide_eq_false g1
    by_cases g2 : fi + ma ≤ g
    · have e2 : decide (fi + ma ≤ g) = true := decide_eq_true g2
      have NC : Hid (¬ cov ⟨c, h, x, ls⟩ y.1 g) := fun z => by have := HCV.out.1 z; omega
      clear g1 g2
      gi_wp2_with fail
      exact ⟨KeepsFrom.refl _ _, Kx.refl _ _ _, ⟨⟨⟨⟨⟨fun z hz => (List.mem_append.1 hz).elim (HP.out z) (fun e => by simp at e; subst e; exact NC.out), DS.out⟩, DM.out⟩, DG.out⟩, DB.out⟩, HBB.out⟩⟩
    have e2 : decide (fi + ma ≤ g) = false := decide_eq_false g2
    have HC : Hid (cov ⟨c, h, x, ls⟩ y.1 g) := HCV.out.2 ⟨by omega, by omega⟩
    obtain ⟨d, hd⟩ : ∃ d, d = g - fi := ⟨_, rfl⟩
    have d0 : 0 ≤ d := by omega
    have d1 : d ≤ 512 := by omega
    obtain ⟨at', hat⟩ : ∃ at', at' = d / ea := ⟨_, rfl⟩
    have a0 : 0 ≤ at' := by rw [hat]; exact Int.ediv_nonneg d0 (by omega)
    have a1 : at' ≤ 512 := by rw [hat]; exact Int.le_trans (Int.ediv_le_self _ d0) d1
    have v3 : IntKind.i64.wrap (g - fi) = d := by rw [IntWalk.i64_in _ (by omega)]; exact hd.symm
    have v4 : wrap64 (g - fi) = d := by rw [IntWalk.wrap64_in _ (by omega)]; exact hd.symm
    have dv : d.tdiv ea = at' := by rw [hat]; exact Int.tdiv_eq_ediv_of_nonneg d0
    have v5 : IntKind.i64.wrap (d.tdiv ea) = at' := by rw [dv, IntWalk.i64_in _ (by omega)]
    have v6 : wrap64 (d.tdiv ea) = at' := by rw [dv, IntWalk.wrap64_in _ (by omega)]
    have nz : ¬ ea = 0 := by omega
    have nz2 : (ea == 0) = false := by simp; omega
    have AT : Hid (at' = (g - firstS ⟨c, h, x, ls⟩ y.1) / eachS ⟨c, h, x, ls⟩ y.1) := by show _ = _; rw [← FI.out, ← EA.out, ← hd]; exact hat
    clear dv hd hat g1 g2
    gi_wp2_with fail
    refine region_round (S := fun w' => w'.cell? ⟨Bx, 0, none⟩ = some (.int .i64 ((y.1 : Nat) : Int)) ∧ w'.cell? ⟨Bx, 1, none⟩ = some (.int .i64 fi) ∧ w'.cell? ⟨Bx, 2, none⟩ = some (.int .i64 ma) ∧ w'.cell? ⟨Bx, 3, none⟩ = some (.int .i64 ea) ∧ w'.cell? ⟨w.heap.size + 1, 0, none⟩ = some (.int .i64 g) ∧ w'.cell? ⟨w.heap.size, 0, none⟩ = some (.int .i64 c) ∧ w'.cell? ⟨w.heap.size, 1, none⟩ = some (.int .i64 h) ∧ w'.cell? ⟨w.heap.size, 2, none⟩ = some (.int .i64 x) ∧ w'.cell? ⟨w.heap.size, 3, none⟩ = some (.slice A n cA)) (noDefers_of (by kernel_rfl)) (fun ⟨_, _, hz⟩ => hz) l _ (by kernel_rfl) ⟨x0, x1, x2, x3, cg, n0, n1, n2, n3⟩ (fun hHeld => ?_)
    refine wpAnyH_take (i := 0) (v := ?vv1) (by simp only [List.getElem?_toArray, List.getElem?_cons_zero]; rfl) (by kernel_rfl) (by kernel_rfl) (by kernel_rfl) (fun _ _ _ h => h) (Or.inl ⟨by rfl, ?yy1⟩) (by assumption) ?rr1
    case yy1 => (intro w hSw; (try dsimp only at hSw); go_simp; first | done | with_reducible rfl)
    simp only [Act.put, List.setIfInBounds_toArray, List.set_cons_zero, List.set_cons_succ]
    refine wpAnyH_take (i := 1) (v := ?vv2) (by simp only [List.getElem?_toArray, List.getElem?_cons_zero, List.getElem?_cons_succ]; rfl) (by kernel_rfl) (by kernel_rfl) (by kernel_rfl) (fun _ _ _ h => h) (Or.inl ⟨by rfl, ?yy2⟩) (by assumption) ?rr2
    case yy2 => (intro w hSw; (try dsimp only at hSw); go_simp; first | done | with_reducible rfl)
    simp only [Act.put, List.setIfInBounds_toArray, List.set_cons_zero, List.set_cons_succ]
    refine wpAnyH_take (i := 2) (v := ?vv3) (by simp only [List.getElem?_toArray, List.getElem?_cons_zero, List.getElem?_cons_succ]; rfl) (by kernel_rfl) (by kernel_rfl) (by kernel_rfl) (fun _ _ _ h => h) (Or.inl ⟨by rfl, ?yy3⟩) (by assumption) ?rr3
    case yy3 => (intro w hSw; (try dsimp only at hSw); go_simp; first | done | with_reducible rfl)
    simp only [Act.put, List.setIfInBounds_toArray, List.set_cons_zero, List.set_cons_succ]
    refine wpAnyH_take (i := 3) (v := ?vv4) (by simp only [List.getElem?_toArray, List.getElem?_cons_zero, List.getElem?_cons_succ]; rfl) (by kernel_rfl) (by kernel_rfl) (by kernel_rfl) (fun _ _ _ h => h) (Or.inl ⟨by rfl, ?yy4⟩) (by assumption) ?rr4
    case yy4 => (intro w hSw; (try dsimp only at hSw); go_simp; first | done | with_reducible rfl)
    simp only [Act.put, List.setIfInBounds_toArray, List.set_cons_zero, List.set_cons_succ]
    refine wpAnyH_take (i := 4) (v := ?vv5) (by simp only [List.getElem?_toArray, List.getElem?_cons_zero, List.getElem?_cons_succ]; rfl) (by kernel_rfl) (by kernel_rfl) (by kernel_rfl) (fun _ _ _ h => h) (Or.inl ⟨by rfl, ?yy5⟩) (by assumption) ?rr5
    case yy5 => (intro w hSw; (try dsimp only at hSw); go_simp; first | done | with_reducible rfl)
    simp only [Act.put, List.setIfInBounds_toArray, List.set_cons_zero, List.set_cons_succ]
    refine wpAnyH_take (i := 5) (v := ?vv6) (by simp only [List.getElem?_toArray, List.getElem?_cons_zero, List.getElem?_cons_succ]; rfl) (by kernel_rfl) (by kernel_rfl) (by kernel_rfl) (fun _ _ _ h => h) (Or.inl ⟨by rfl, ?yy6⟩) (by assumption) ?rr6
    case yy6 => (intro w hSw; (try dsimp only at hSw); go_simp; first | done | with_reducible rfl)
    simp only [Act.put, List.setIfInBounds_toArray, List.set_cons_zero, List.set_cons_succ]
    refine wpAnyH_take (i := 6) (v := ?vv7) (by simp only [List.getElem?_toArray, List.getElem?_cons_zero, List.getElem?_cons_succ]; rfl) (by kernel_rfl) (by kernel_rfl) (by kernel_rfl) (fun _ _ _ h => h) (Or.inl ⟨by rfl, ?yy7⟩) (by assumption) ?rr7
    case yy7 => (intro w hSw; (try dsimp only at hSw); go_simp; first | done | with_reducible rfl)
    simp only [Act.put, List.setIfInBounds_toArray, List.set_cons_zero, List.set_cons_succ]
    refine wpAnyH_take (i := 7) (v := ?vv8) (by simp only [List.getElem?_toArray, List.getElem?_cons_zero, List.getElem?_cons_succ]; rfl) (by kernel_rfl) (by kernel_rfl) (by kernel_rfl) (fun _ _ _ h => h) (Or.inl ⟨by rfl, ?yy8⟩) (by assumption) ?rr8
    case yy8 => (intro w hSw; (try dsimp only at hSw); go_simp; first | done | with_reducible rfl)
    simp only [Act.put, List.setIfInBounds_toArray, List.set_cons_zero, List.set_cons_succ]
    refine wpAnyH_take (i := 8) (v := ?vv9) (by simp only [List.getElem?_toArray, List.getElem?_cons_zero, List.getElem?_cons_succ]; rfl) (by kernel_rfl) (by kernel_rfl) (by kernel_rfl) (fun _ _ _ h => h) (Or.inl ⟨by rfl, ?yy9⟩) (by assumption) ?rr9
    case yy9 => (intro w hSw; (try dsimp only at hSw); go_simp; first | done | with_reducible rfl)
    simp only [Act.put, List.setIfInBounds_toArray, List.set_cons_zero, List.set_cons_succ]
    refine wpAnyH_ready (rs := [9]) (by kernel_rfl) (by simp) ?_
    refine AllReadyH.cons (by simp only [List.getElem?_toArray, List.getElem?_cons_zero, List.getElem?_cons_succ]; rfl) (fun K hK => ?_) AllReadyH.nil
    go_simp
    go_at_call 79
    (with_reducible refine (ggates8 ((y.1 : Nat) : Int) fi ma ea c h x (.slice A n cA) at' _).mono ?_)
    rintro e wq ⟨rfl, rfl⟩
    obtain ⟨os, hos⟩ : ∃ os : List Obj, os = [.cells #[.int .i64 ((y.1 : Nat) : Int), .int .i64 fi, .int .i64 ma, .int .i64 ea] 107, .cells #[.int .i64 c, .int .i64 h, .int .i64 x, .slice A n cA] 26, .cells #[.int .i64 at'] 3] := ⟨_, rfl⟩
    have hV0 := tow_below os W.drew
    have iS : PB (os.foldl World.alloc W.drew) (W.heap.size) ((y.1 : Nat) : Int) fi ma ea := tow_at os W.drew 0 _ (by rw [hos]; rfl)
    have iN : NB (os.foldl World.alloc W.drew) (W.heap.size + 1) c h x (.slice A n cA) := tow_at os W.drew 1 _ (by rw [hos]; rfl)
    have iA : CB (os.foldl World.alloc W.drew) (W.heap.size + 1 + 1) 3 (.int .i64 at') := tow_at os W.drew 2 _ (by rw [hos]; rfl)
    have isz : (os.foldl World.alloc W.drew).heap.size = W.heap.size + 3 := by rw [tow_size, hos]; rfl
    obtain ⟨V, hV⟩ : ∃ V, os.foldl World.alloc W.drew = V := ⟨_, rfl⟩
    have eV : [Obj.cells #[.int .i64 ((y.1 : Nat) : Int), .int .i64 fi, .int .i64 ma, .int .i64 ea] 107, .cells #[.int .i64 c, .int .i64 h, .int .i64 x, .slice A n cA] 26, .cells #[.int .i64 at'] 3].foldl World.alloc W.drew = V := by rw [← hos]; exact hV
    rw [hV] at hV0 iS iN iA isz
    simp only [List.foldl_cons, List.foldl_nil] at eV
    rw [eV]
    clear hV hos eV os
    have BV : Hid (Below W.heap.size W V) := chain (below_drew W) hV0
    have g0 := (BV.out.cell (p := ⟨Bx, 0, none⟩) lX).trans x0
    have g1 := (BV.out.cell (p := ⟨Bx, 1, none⟩) lX).trans x1
    have g2 := (BV.out.cell (p := ⟨Bx, 2, none⟩) lX).trans x2
    have g3 := (BV.out.cell (p := ⟨Bx, 3, none⟩) lX).trans x3
    have g4 := (BV.out.cell (p := ⟨w.heap.size + 1, 0, none⟩) DS.out.lt).trans cg
    have g5 := (BV.out.cell (p := ⟨w.heap.size, 0, none⟩) lM).trans n0
    have g6 := (BV.out.cell (p := ⟨w.heap.size, 1, none⟩) lM).trans n1
    have g7 := (BV.out.cell (p := ⟨w.heap.size, 2, none⟩) lM).trans n2
    have g8 := (BV.out.cell (p := ⟨w.heap.size, 3, none⟩) lM).trans n3
    go_wp2_with fail
    refine hK.out _ _ ⟨g0, g1, g2, g3, g4, g5, g6, g7, g8⟩ (fun hHeld => ?_)
    clear hK K hHeld g0 g1 g2 g3 g4 g5 g6 g7 g8 x0 x1 x2 x3 n0 n1 n2 n3 cg
    try simp only [Act.put, List.setIfInBounds_toArray, List.set_cons_zero, List.set_cons_succ]
    refine wpAnyH_done (by kernel_rfl) ?_ _
    gi_wp2_with fail
    obtain ⟨ts, hts⟩ : ∃ ts, termsN ⟨c, h, x, ls⟩ ((y.1 : Nat) : Int) at' = ts := ⟨_, rfl⟩
    obtain ⟨tb1, tb2⟩ := terms_bd y at'
    rw [hts] at tb1 tb2
    have HT := Lib.hid hts
    have hr' : V.heap[l]? = some (.loop r) := (BV.out.block l (Array.getElem?_eq_some_iff.1 HR.out).1).trans HR.out
    have lG := DG.out.lt; have lB := DB.out.lt
    refine wpIn_rangeFunc_ownN (F := Fence.wide.inRound l) (l₀ := l) (r₀ := r) rfl hr' (by omega) (gf := 98) (lb := #[.pointer (some ⟨W.heap.size + 1, 0, none⟩), .pointer (some ⟨W.heap.size, 0, none⟩), .pointer (some ⟨W.heap.size + 1 + 1, 0, none⟩)]) rfl trivial (enters_of Try.func98 (by kernel_rfl) rfl)
      ((gates1_stops (m - 1 - 1 - 1) c h x A cA n ls w HX.out LX.out hn ((y.1 : Nat) : Int) fi ma ea at' ts hts (W.heap.size) (W.heap.size + 1) (W.heap.size + 1 + 1) (fun k _ => k = w.heap.size + 1 + 1 ∨ k = w.heap.size + 1 + 1 + 1) V iS iN iA (by omega) (by omega) (by omega) (fun k T hk => by omega) (chain HBB.out BV.out) f2 (by omega) (by omega) (by omega) (fun _ => ⟨a0, by omega⟩) (by omega)).inRound l) (fun h k => h.trans k) (fun W l o o' => Kx.put (by omega) W l o o') (Below.refl _ _) (fun _ => rfl)
      (fun pre' W' => (((((∀ j ∈ pre', ¬ fi + at' * ea + ((j.1 : Nat) : Int) = g) ∧ CB W' (w.heap.size + 1) 3 (.int .i64 g)) ∧ NB W' (w.heap.size) c h x (.slice A n cA)) ∧ GB W' (w.heap.size + 1 + 1) Gt.z) ∧ CB W' (w.heap.size + 1 + 1 + 1) 4 (.bool false)) ∧ (Kx w.heap.size (fun k _ => k = w.heap.size + 1 + 1 ∨ k = w.heap.size + 1 + 1 + 1) W W' ∧ KeepsFrom W0.heap.size W W'))
      (fun q _ W' => (((q = .ret ∧ hasG ⟨c, h, x, ls⟩ g = true) ∧ GB W' (w.heap.size + 1 + 1) (gateN ⟨c, h, x, ls⟩ g)) ∧ CB W' (w.heap.size + 1 + 1 + 1) 4 (.bool true)) ∧ (Below w.heap.size W W' ∧ KeepsFrom W0.heap.size W W'))
      (OwnFrom.and (OwnFrom.and (OwnFrom.and (OwnFrom.and (OwnFrom.and (ownFrom_pure _ _) (Own.from (cb_own _ _ _) _)) (Own.from (cells_own _ _ _ _) _)) (Own.from (cells_own _ _ _ _) _)) (Own.from (cb_own _ _ _) _)) (OwnFrom.and (ownFrom_kx szW (by omega)) (ownFrom_keepsFrom (by omega))))
      (fun q => OwnFrom.and (OwnFrom.and (OwnFrom.and (ownFrom_pure _ _) (Own.from (cells_own _ _ _ _) _)) (Own.from (cb_own _ _ _) _)) (OwnFrom.and (ownFrom_below szW (by omega)) (ownFrom_keepsFrom (by omega))))
      ⟨⟨⟨⟨⟨by simp, DS.out.below BV.out⟩, DM.out.below BV.out⟩, DG.out.below BV.out⟩, DB.out.below BV.out⟩, Kx.of_below BV.out _ szW, keeps_below BV.out⟩
      (fun j a'' W' => ∃ By, w.heap.size + 1 + 1 + 1 < By ∧ GB W' By ⟨((y.1 : Nat) : Int), at', ((j.1 : Nat) : Int), ts[j].x, ts[j].w⟩ ∧ a'' = { tmps := #[.agg #[.int .i64 c, .int .i64 h, .int .i64 x, .slice A n cA], .int .i64 g, .pointer (some ⟨w.heap.size, 0, none⟩), .pointer (some ⟨w.heap.size + 1, 0, none⟩), .pointer (some ⟨w.heap.size + 1 + 1, 0, none⟩), .pointer (some ⟨w.heap.size + 1 + 1 + 1, 0, none⟩), undef, .pointer (some ⟨Bx, 0, none⟩), .int .i64 (fi + at' * ea + ((j.1 : Nat) : Int)), .pointer (some ⟨By, 0, none⟩), .agg #[.int .i64 c, .int .i64 h, .int .i64 x, .slice A n cA], .func (.func 97) #[] #[.pointer (some ⟨w.heap.size + 1 + 1 + 1 + 1, 0, none⟩)], .int .i64 nu, .agg #[.int .i64 ((y.1 : Nat) : Int), .int .i64 fi, .int .i64 ma, .int .i64 ea], .int .i64 g, .pointer (some ⟨Bx, 1, none⟩), .int .i64 fi, .bool false, .bool false, .int .i64 g, .pointer (some ⟨Bx, 1, none⟩), .int .i64 fi, .pointer (some ⟨Bx, 2, none⟩), .int .i64 ma, .int .i64 (fi + ma), .bool false, .bool false, .agg #[.int .i64 ((y.1 : Nat) : Int), .int .i64 fi, .int .i64 ma, .int .i64 ea], .agg #[.int .i64 c, .int .i64 h, .int .i64 x, .slice A n cA], .int .i64 g, .pointer (some ⟨Bx, 1, none⟩), .int .i64 fi, .int .i64 d, .pointer (some ⟨Bx, 3, none⟩), .int .i64 ea, .int .i64 at', .func (.func 98) #[] #[.pointer (some ⟨W.heap.size + 1, 0, none⟩), .pointer (some ⟨W.heap.size, 0, none⟩), .pointer (some ⟨W.heap.size + 1 + 1, 0, none⟩)], .int .i64 (fi + at' * ea + ((j.1 : Nat) : Int)), .agg #[.int .i64 ((y.1 : Nat) : Int), .int .i64 at', .int .i64 ((j.1 : Nat) : Int), .int .i64 ts[j].x, .int .i64 ts[j].w], undef, undef, undef, undef, undef], defers := [] })
      (fun j a'' _ P1 P2 row hs hg hr => by obtain ⟨By, e1, e2, e3⟩ := hs; exact ⟨By, e1, cells_own By _ _ _ () P1 P2 row e2 hg (fun r e => (hr r e).2), e3⟩)
      ?assign2 ?body2 ?done2 ?stop2
    case assign2 =>
      rintro l2 pre' j W' K ⟨⟨⟨⟨⟨hq, dS⟩, dM⟩, dG⟩, dB⟩, hKx, hKF⟩ hK
      have sz2 : w.heap.size ≤ W'.heap.size := by have := dB.lt; omega
      simp only [encG]
      gi_wp2_with fail
      have al := (Below.refl W'.heap.size W').alloc (Nat.le_refl _) (.cells #[.int .i64 ((y.1 : Nat) : Int), .int .i64 at', .int .i64 ((j.1 : Nat) : Int), .int .i64 ts[j].x, .int .i64 ts[j].w] 54)
      exact hK _ _ ((KeepsOthers.alloc _ _).from _) ((Kx.refl _ _ W').alloc sz2 _) ⟨⟨⟨⟨⟨hq, dS.below al⟩, dM.below al⟩, dG.below al⟩, dB.below al⟩, hKx.alloc sz2 _, hKF.trans ((KeepsOthers.alloc _ _).from _)⟩ ⟨W'.heap.size, by have := dB.lt; omega, heap_alloc_new W' _, rfl⟩
    case body2 =>
      rintro l2 pre' j a'' W' hl2 _ ⟨⟨⟨⟨⟨hq, dS⟩, dM⟩, dG⟩, dB⟩, hKx, hKF⟩ ⟨By, hBy, bY, rfl⟩ hlt2
      have HSZ := Lib.hid hsz
      clear hsz
      have cg := dS.cell
      obtain ⟨G0, hG0⟩ : ∃ G0 : Gt, G0 = ⟨((y.1 : Nat) : Int), at', ((j.1 : Nat) : Int), ts[j].x, ts[j].w⟩ := ⟨_, rfl⟩
      rw [← hG0] at bY
      obtain ⟨y0, y1, y2, y3, y4⟩ := bY.cells
      obtain ⟨z0, z1, z2, z3, z4⟩ := dG.cells
      obtain ⟨q0, q1, q2, q3, q4⟩ := dG.frozen
      have zb := dB.cell; have qb := dB.frozen
      have lY := bY.lt
      obtain ⟨nn, hnn⟩ : ∃ nn, nn = fi + at' * ea + ((j.1 : Nat) : Int) := ⟨_, rfl⟩
      rw [← hnn]
      have HQ := Lib.hid hq; have D1 := Lib.hid dS; have D2 := Lib.hid dM; have D3 := Lib.hid dG; have D4 := Lib.hid dB; have KX := Lib.hid hKx; have KF := Lib.hid hKF; have NN := Lib.hid hnn; have HG0 := Lib.hid hG0
      clear hq dS dM dG dB hKx hKF hnn bY hG0
      by_cases hh : nn = g
      · have e1 : (nn == g) = true := by simpa using hh
        obtain ⟨GG, GH⟩ : gateN ⟨c, h, x, ls⟩ g = G0 ∧ hasG ⟨c, h, x, ls⟩ g = true := by
          rw [HG0.out]
          exact gate_of y (by rw [HT.out]; exact List.getElem?_eq_getElem j.2) (by rw [← FI.out, ← EA.out, ← hh]; exact NN.out.symm)
        have HGG := Lib.hid GG; have HGH := Lib.hid GH
        clear hh GG GH
        gi_wp2_with fail
        have E1 := D3.out.set5 G0
        have E2 := cb_set5 D4.out (show w.heap.size + 1 + 1 + 1 ≠ w.heap.size + 1 + 1 by omega) (.int .i64 G0.l) (.int .i64 G0.a) (.int .i64 G0.t) (.int .i64 G0.x) (.int .i64 G0.w)
        have E3 := below_five KX.out.below (show w.heap.size ≤ w.heap.size + 1 + 1 by omega) (.int .i64 G0.l) (.int .i64 G0.a) (.int .i64 G0.t) (.int .i64 G0.x) (.int .i64 G0.w)
        have E4 := keeps_five W' (w.heap.size + 1 + 1) (.int .i64 G0.l) (.int .i64 G0.a) (.int .i64 G0.t) (.int .i64 G0.x) (.int .i64 G0.w)
        exact ⟨(E4.trans (KeepsOthers.setCell _ _ _)).from _, ⟨⟨⟨rfl, HGH.out⟩, by rw [HGG.out]; exact GB.other E1 _ _ (by show w.heap.size + 1 + 1 ≠ w.heap.size + 1 + 1 + 1; omega)⟩, CB.set E2 _⟩, E3.setCell (p := ⟨w.heap.size + 1 + 1 + 1, 0, none⟩) (by show w.heap.size ≤ w.heap.size + 1 + 1 + 1; omega) _, KF.out.trans ((E4.trans (KeepsOthers.setCell _ _ _)).from _)⟩
      · have e1 : (nn == g) = false := by simpa using hh
        have HH := Lib.hid hh
        clear hh
        gi_wp2_with fail
        exact ⟨KeepsFrom.refl _ _, Kx.refl _ _ _, ⟨⟨⟨⟨⟨fun z hz => (List.mem_append.1 hz).elim (HQ.out z) (fun e e' => by simp at e; subst e; exact HH.out (NN.out.trans e')), D1.out⟩, D2.out⟩, D3.out⟩, D4.out⟩, KX.out, KF.out⟩⟩
    case done2 =>
      rintro ys' W' rfl ⟨⟨⟨⟨⟨hq, dS⟩, dM⟩, dG⟩, dB⟩, hKx, hKF⟩
      exfalso
      obtain ⟨j, j1, j2⟩ := cov_term l60 y HC.out
      rw [← AT.out, HT.out] at j1
      rw [← AT.out, ← FI.out, ← EA.out] at j2
      exact hq ⟨j, j1⟩ (List.mem_finRange _) j2
    case stop2 =>
      rintro q pre' W' hpre ⟨⟨⟨⟨rfl, hG⟩, e0⟩, e1⟩, hBW, hKF⟩
      gi_wp2_with fail
      exact ⟨hKF, ⟨⟨⟨rfl, hG⟩, e0⟩, e1⟩, HBB.out.trans hBW⟩
  case done =>
    rintro D ys W hD rfl ⟨⟨⟨⟨⟨hp, dS⟩, dM⟩, dG⟩, dB⟩, hB⟩ hK
    obtain ⟨z0, z1, z2, z3, z4⟩ := dG.cells
    obtain ⟨q0, q1, q2, q3, q4⟩ := dG.frozen
    have zb := dB.cell; have qb := dB.frozen
    obtain ⟨M1, M2⟩ := gate_miss hp
    have D3 := Lib.hid dG; have D4 := Lib.hid dB; have HBB := Lib.hid hB; have HK := Lib.hid hK; have HM1 := Lib.hid M1; have HM2 := Lib.hid M2
    clear dS dM dG dB hB hp hK M1 M2
    gi_wp2_with fail
    have E1 : GB (((((W.setCell ⟨w.heap.size + 1 + 1, 0, none⟩ (.int .i64 0)).setCell ⟨w.heap.size + 1 + 1, 1, none⟩ (.int .i64 0)).setCell ⟨w.heap.size + 1 + 1, 2, none⟩ (.int .i64 0)).setCell ⟨w.heap.size + 1 + 1, 3, none⟩ (.int .i64 0)).setCell ⟨w.heap.size + 1 + 1, 4, none⟩ (.int .i64 0)) (w.heap.size + 1 + 1) Gt.z := D3.out.set5 Gt.z
    have E2 := cb_set5 D4.out (show w.heap.size + 1 + 1 + 1 ≠ w.heap.size + 1 + 1 by omega) (.int .i64 0) (.int .i64 0) (.int .i64 0) (.int .i64 0) (.int .i64 0)
    have E3 := below_five HBB.out (show w.heap.size ≤ w.heap.size + 1 + 1 by omega) (.int .i64 0) (.int .i64 0) (.int .i64 0) (.int .i64 0) (.int .i64 0)
    have E4 := keeps_five W (w.heap.size + 1 + 1) (.int .i64 0) (.int .i64 0) (.int .i64 0) (.int .i64 0) (.int .i64 0)
    have F1 := GB.other E1 ⟨w.heap.size + 1 + 1 + 1, 0, none⟩ (.bool false) (by show w.heap.size + 1 + 1 ≠ w.heap.size + 1 + 1 + 1; omega)
    have F2 := CB.set E2 (.bool false)
    have F3 := E3.setCell (p := ⟨w.heap.size + 1 + 1 + 1, 0, none⟩) (by show w.heap.size ≤ w.heap.size + 1 + 1 + 1; omega) (.bool false)
    have hK' := (E4.trans (KeepsOthers.setCell _ ⟨w.heap.size + 1 + 1 + 1, 0, none⟩ (.bool false))).same D _ HK.out rfl
    generalize (((((W.setCell ⟨w.heap.size + 1 + 1, 0, none⟩ (.int .i64 0)).setCell ⟨w.heap.size + 1 + 1, 1, none⟩ (.int .i64 0)).setCell ⟨w.heap.size + 1 + 1, 2, none⟩ (.int .i64 0)).setCell ⟨w.heap.size + 1 + 1, 3, none⟩ (.int .i64 0)).setCell ⟨w.heap.size + 1 + 1, 4, none⟩ (.int .i64 0)).setCell ⟨w.heap.size + 1 + 1 + 1, 0, none⟩ (.bool false) = V at F1 F2 F3 hK' ⊢
    have fin := ret_gate (D := D) F1 F2 F3 hK' (by omega) (by omega) (by omega)
    clear E1 E2 E3 E4
    refine ⟨by simp, .inl ⟨_, _, rfl, run_takeDeferred hK', ?_⟩⟩
    obtain ⟨p0, p1, p2, p3, p4, p5, p6⟩ := fin
    refine ⟨.tuple #[.agg #[.int .i64 (gateN ⟨c, h, x, ls⟩ g).l, .int .i64 (gateN ⟨c, h, x, ls⟩ g).a, .int .i64 (gateN ⟨c, h, x, ls⟩ g).t, .int .i64 (gateN ⟨c, h, x, ls⟩ g).x, .int .i64 (gateN ⟨c, h, x, ls⟩ g).w], .bool (hasG ⟨c, h, x, ls⟩ g)], ?_, rfl, p6⟩
    rw [HM1.out, HM2.out]
    simp only [Gt.z] at p0 p1 p2 p3 p4 ⊢
    simp [results, Try.results44, go_sem, p0, p1, p2, p3, p4, p5]
  case stop =>
    rintro D q pre W hD hpre ⟨⟨⟨⟨rfl, hG⟩, e0⟩, e1⟩, hB⟩ hK
    gi_wp2_with fail
    obtain ⟨p0, p1, p2, p3, p4, p5, p6⟩ := ret_gate (D := D) e0 e1 hB hK (by omega) (by omega) (by omega)
    refine ⟨by simp, .inl ⟨_, _, rfl, run_takeDeferred hK, ?_⟩⟩
    refine ⟨.tuple #[.agg #[.int .i64 (gateN ⟨c, h, x, ls⟩ g).l, .int .i64 (gateN ⟨c, h, x, ls⟩ g).a, .int .i64 (gateN ⟨c, h, x, ls⟩ g).t, .int .i64 (gateN ⟨c, h, x, ls⟩ g).x, .int .i64 (gateN ⟨c, h, x, ls⟩ g).w], .bool (hasG ⟨c, h, x, ls⟩ g)], ?_, rfl, p6⟩
    rw [hG]
    simp [results, Try.results44, go_sem, p0, p1, p2, p3, p4, p5]

end Go.Proofs.Ytnfmpladdfgadaa

namespace Go.Proofs.Ytnfmpladdfgadaa
open Go.RowKit Go.Shelf
attribute [local go_sem] Oper.semAt_some

set_option maxHeartbeats 8000000 in
set_option maxRecDepth 100000 in
theorem gindex8 (c h x : Int) (A : Option Addr) (cA n : Nat) (ls : List Ly) (la a t r : Int) (hr : indexN ⟨c, h, x, ls⟩ la a t = r) (w : World) (hx : Rl w A ls) (ln : n = ls.length) (hn : n ≤ 60) :
    Calls Try.prog 50 #[.agg #[.int .i64 c, .int .i64 h, .int .i64 x, .slice A n cA], .int .i64 la, .int .i64 a, .int .i64 t] w fun e w' => e = .returned (.int .i64 r) ∧ Below w.heap.size w w' := by
  have HX := Lib.hid hx; have LX := Lib.hid ln; have HRR := Lib.hid hr
  have l60 : ls.length ≤ 60 := by rw [← ln]; exact hn
  clear hx ln hr
  obtain ⟨m, hm⟩ : ∃ m : Nat, 9 ≤ m := ⟨9, Nat.le_refl _⟩
  refine (callsIn_wide (n := m)).1 ?_
  refine callsIn_of_wp_marks Try.func50 rfl trivial ?_ rfl
  simp only [Try.ntmps50, List.size_toArray, List.length_cons, List.length_nil, Nat.reduceAdd, Nat.reduceSub, Array.replicate_succ, Array.replicate_zero, List.push_toArray, List.append_toArray, List.nil_append, List.cons_append]
  gi_wp2_with fail
  refine ⟨trivial, fun z => by simp [Fence.wide] at z, (callsIn_wide.2 (gspans8 c h x (.slice A n cA) _)).mono ?_⟩
  rintro e w1 ⟨rfl, rfl⟩
  gi_wp2_with fail
  obtain ⟨os, hos⟩ : ∃ os : List Obj, os = [.cells #[.int .i64 c, .int .i64 h, .int .i64 x, .slice A n cA] 26, .cells #[.int .i64 la] 3, .cells #[.int .i64 a] 3, .cells #[.int .i64 t] 3, .cells #[.int .i64 0] 3, .cells #[.int .i64 c, .int .i64 h, .int .i64 x, .slice A n cA] 26] := ⟨_, rfl⟩
  have dM : NB (os.foldl World.alloc w) (w.heap.size) c h x (.slice A n cA) := tow_at os w 0 _ (by rw [hos]; rfl)
  have d1 : CB (os.foldl World.alloc w) (w.heap.size + 1) 3 (.int .i64 la) := tow_at os w 1 _ (by rw [hos]; rfl)
  have d2 : CB (os.foldl World.alloc w) (w.heap.size + 1 + 1) 3 (.int .i64 a) := tow_at os w 2 _ (by rw [hos]; rfl)
  have d3 : CB (os.foldl World.alloc w) (w.heap.size + 1 + 1 + 1) 3 (.int .i64 t) := tow_at os w 3 _ (by rw [hos]; rfl)
  have d4 : CB (os.foldl World.alloc w) (w.heap.size + 1 + 1 + 1 + 1) 3 (.int .i64 0) := tow_at os w 4 _ (by rw [hos]; rfl)
  have bN : NB (os.foldl World.alloc w) (w.heap.size + 1 + 1 + 1 + 1 + 1) c h x (.slice A n cA) := tow_at os w 5 _ (by rw [hos]; rfl)
  have hB0 := tow_below os w
  have hsz : (os.foldl World.alloc w).heap.size = w.heap.size + 6 := by rw [tow_size, hos]; rfl
  obtain ⟨W0, hW0⟩ : ∃ W0, os.foldl World.alloc w = W0 := ⟨_, rfl⟩
  have eW : [.cells #[.int .i64 c, .int .i64 h, .int .i64 x, .slice A n cA] 26, .cells #[.int .i64 la] 3, .cells #[.int .i64 a] 3, .cells #[.int .i64 t] 3, .cells #[.int .i64 0] 3, .cells #[.int .i64 c, .int .i64 h, .int .i64 x, .slice A n cA] 26].foldl World.alloc w = W0 := by rw [← hos]; exact hW0
  rw [hW0] at dM d1 d2 d3 d4 bN hB0 hsz
  simp only [List.foldl_cons, List.foldl_nil] at eW
  rw [eW]
  clear hW0 eW hos os
  refine wpIn_rangeFunc_ownH (F := Fence.wide) rfl (by omega) (gf := 97) (lb := #[.pointer (some ⟨w.heap.size + 1 + 1 + 1 + 1 + 1, 0, none⟩)]) rfl trivial (enters_of Try.func97 (by kernel_rfl) rfl)
    (spans1_stops (m - 1) c h x A cA n ls w HX.out LX.out hn (w.heap.size + 1 + 1 + 1 + 1 + 1) (fun k _ => k = w.heap.size + 1 + 1 + 1 + 1) W0 bN (by omega) (fun _ _ => by omega) hB0) (fun h k => h.trans k) (fun W l o o' => Kx.put (by omega) W l o o') (Below.refl _ _) (fun _ => rfl)
    (fun pre W => (((∀ y ∈ pre, ((y.1 : Nat) : Int) = la → ∀ j : Nat, j < (termsN ⟨c, h, x, ls⟩ ((y.1 : Nat) : Int) a).length → ¬ ((j : Nat) : Int) = t)) ∧ (((CB W (w.heap.size + 1) 3 (.int .i64 la) ∧ CB W (w.heap.size + 1 + 1) 3 (.int .i64 a)) ∧ CB W (w.heap.size + 1 + 1 + 1) 3 (.int .i64 t)) ∧ NB W (w.heap.size) c h x (.slice A n cA)) ∧ CB W (w.heap.size + 1 + 1 + 1 + 1) 3 (.int .i64 0)) ∧ Below w.heap.size w W)
    (fun q _ W => ((q = .ret) ∧ CB W (w.heap.size + 1 + 1 + 1 + 1) 3 (.int .i64 r)) ∧ Below w.heap.size w W)
    (OwnFrom.and (OwnFrom.and (ownFrom_pure _ _) (OwnFrom.and (OwnFrom.and (OwnFrom.and (OwnFrom.and (Own.from (cb_own _ _ _) _) (Own.from (cb_own _ _ _) _)) (Own.from (cb_own _ _ _) _)) (Own.from (cells_own _ _ _ _) _)) (Own.from (cb_own _ _ _) _))) (ownFrom_below (Nat.le_refl _) (by omega)))
    (fun q => OwnFrom.and (OwnFrom.and (ownFrom_pure _ _) (Own.from (cb_own _ _ _) _)) (ownFrom_below (Nat.le_refl _) (by omega)))
    ⟨⟨by simp, ⟨⟨⟨⟨d1, d2⟩, d3⟩, dM⟩, d4⟩⟩, hB0⟩
    (fun y a' W => ∃ Bx, w.heap.size + 1 + 1 + 1 + 1 < Bx ∧ PB W Bx ((y.1 : Nat) : Int) (firstS ⟨c, h, x, ls⟩ y.1) (manyS ⟨c, h, x, ls⟩ y.1) (eachS ⟨c, h, x, ls⟩ y.1) ∧ a' = { tmps := #[.agg #[.int .i64 c, .int .i64 h, .int .i64 x, .slice A n cA], .int .i64 la, .int .i64 a, .int .i64 t, .pointer (some ⟨w.heap.size, 0, none⟩), .pointer (some ⟨w.heap.size + 1, 0, none⟩), .pointer (some ⟨w.heap.size + 1 + 1, 0, none⟩), .pointer (some ⟨w.heap.size + 1 + 1 + 1, 0, none⟩), .pointer (some ⟨w.heap.size + 1 + 1 + 1 + 1, 0, none⟩), undef, .pointer (some ⟨Bx, 0, none⟩), undef, undef, .agg #[.int .i64 c, .int .i64 h, .int .i64 x, .slice A n cA], .func (.func 97) #[] #[.pointer (some ⟨w.heap.size + 1 + 1 + 1 + 1 + 1, 0, none⟩)], .int .i64 (numS ⟨c, h, x, ls⟩ y.1), .agg #[.int .i64 ((y.1 : Nat) : Int), .int .i64 (firstS ⟨c, h, x, ls⟩ y.1), .int .i64 (manyS ⟨c, h, x, ls⟩ y.1), .int .i64 (eachS ⟨c, h, x, ls⟩ y.1)], undef, undef, undef, undef, undef, undef, undef, undef, undef, undef, undef, undef, undef, undef, undef], defers := [] })
    (fun y a' _ P1 P2 row hs hg hr => by obtain ⟨Bx, e1, e2, e3⟩ := hs; exact ⟨Bx, e1, cells_own Bx _ _ _ () P1 P2 row e2 hg (fun r e => (hr r e).2), e3⟩)
    ?assign ?body ?done ?stop
  case assign =>
    rintro l pre y W K ⟨⟨hp, ⟨⟨⟨⟨d1, d2⟩, d3⟩, dM⟩, d4⟩⟩, hB⟩ hK
    simp only [encS]
    gi_wp2_with fail
    have al := (Below.refl W.heap.size W).alloc (Nat.le_refl _) (.cells #[.int .i64 ((y.1 : Nat) : Int), .int .i64 (firstS ⟨c, h, x, ls⟩ y.1), .int .i64 (manyS ⟨c, h, x, ls⟩ y.1), .int .i64 (eachS ⟨c, h, x, ls⟩ y.1)] 107)
    exact hK _ _ ((KeepsOthers.alloc _ _).from _) ((Kx.refl _ _ W).alloc hB.size _) ⟨⟨hp, ⟨⟨⟨⟨d1.below al, d2.below al⟩, d3.below al⟩, dM.below al⟩, d4.below al⟩⟩, hB.alloc hB.size _⟩ ⟨W.heap.size, by have := d4.lt; omega, heap_alloc_new W _, rfl⟩
  case body =>
    rintro l pre y a' W hl ⟨lr, hlr⟩ ⟨⟨hp, ⟨⟨⟨⟨d1, d2⟩, d3⟩, dM⟩, d4⟩⟩, hB⟩ ⟨Bx, hBx, bX, rfl⟩ hlt
    obtain ⟨f1, f2, f3, f4, f5, f6, f7⟩ := st_facts l60 y
    have f9 := gates_bd (c := c) (h := h) (x := x) (ls := ls)
    obtain ⟨fi, hfi⟩ : ∃ fi, fi = firstS ⟨c, h, x, ls⟩ y.1 := ⟨_, rfl⟩
    obtain ⟨ma, hma⟩ : ∃ ma, ma = manyS ⟨c, h, x, ls⟩ y.1 := ⟨_, rfl⟩
    obtain ⟨ea, hea⟩ : ∃ ea, ea = eachS ⟨c, h, x, ls⟩ y.1 := ⟨_, rfl⟩
    obtain ⟨nu, hnu⟩ : ∃ nu, nu = numS ⟨c, h, x, ls⟩ y.1 := ⟨_, rfl⟩
    rw [← hfi] at f2
    rw [← hma] at f3 f6
    rw [← hfi, ← hma] at f4
    rw [← hea] at f5 f6
    rw [← hfi, ← hma, ← hea] at bX
    rw [← hfi, ← hma, ← hea, ← hnu]
    have ea9 : ea ≤ 512 := by
      have := Int.mul_le_mul_of_nonneg_right f7 (show 0 ≤ ea by omega)
      omega
    have fi9 : fi ≤ 512 := by omega
    obtain ⟨x0, x1, x2, x3⟩ := bX.cells
    have c1 := d1.cell; have c2 := d2.cell
    obtain ⟨n0, n1, n2, n3⟩ := dM.cells
    have lX := bX.lt
    have lM := dM.lt
    have szW := hB.size
    have D1 := Lib.hid d1; have D2 := Lib.hid d2; have D3 := Lib.hid d3; have DM := Lib.hid dM; have D4 := Lib.hid d4; have HBB := Lib.hid hB; have BX := Lib.hid bX; have HP := Lib.hid hp; have HR := Lib.hid hlr
    have FI := Lib.hid hfi; have EA := Lib.hid hea
    clear f1 f3 f4 f6 f7 f9 d1 d2 d3 dM d4 hB bX hp hlr hfi hma hea hnu hlt
    by_cases hl0 : ¬ ((y.1 : Nat) : Int) = la
    · have e1 : (((y.1 : Nat) : Int) != la) = true := by simpa using hl0
      have HL := Lib.hid hl0
      clear hl0
      gi_wp2_with fail
      exact ⟨KeepsFrom.refl _ _, Kx.refl _ _ _, ⟨⟨fun z hz => (List.mem_append.1 hz).elim (HP.out z) (fun e => by simp at e; subst e; exact fun e => absurd e HL.out), ⟨⟨⟨⟨D1.out, D2.out⟩, D3.out⟩, DM.out⟩, D4.out⟩⟩, HBB.out⟩⟩
    have e1 : (((y.1 : Nat) : Int) != la) = false := by simpa using hl0
    have hl1 := Decidable.not_not.1 hl0
    have HL := Lib.hid hl1
    clear hl0 hl1
    gi_wp2_with fail
    refine ⟨trivial, fun z => by simp [Fence.wide] at z, CallsIn.inRound l ((callsIn_wide.2 (ggates8 ((y.1 : Nat) : Int) fi ma ea c h x (.slice A n cA) a _)).mono ?_)⟩
    rintro e wq ⟨rfl, rfl⟩
    gi_wp2_with fail
    obtain ⟨os, hos⟩ : ∃ os : List Obj, os = [.cells #[.int .i64 ((y.1 : Nat) : Int), .int .i64 fi, .int .i64 ma, .int .i64 ea] 107, .cells #[.int .i64 c, .int .i64 h, .int .i64 x, .slice A n cA] 26, .cells #[.int .i64 a] 3] := ⟨_, rfl⟩
    have hV0 := tow_below os W
    have iS : PB (os.foldl World.alloc W) (W.heap.size) ((y.1 : Nat) : Int) fi ma ea := tow_at os W 0 _ (by rw [hos]; rfl)
    have iN : NB (os.foldl World.alloc W) (W.heap.size + 1) c h x (.slice A n cA) := tow_at os W 1 _ (by rw [hos]; rfl)
    have iA : CB (os.foldl World.alloc W) (W.heap.size + 1 + 1) 3 (.int .i64 a) := tow_at os W 2 _ (by rw [hos]; rfl)
    have isz : (os.foldl World.alloc W).heap.size = W.heap.size + 3 := by rw [tow_size, hos]; rfl
    obtain ⟨V, hV⟩ : ∃ V, os.foldl World.alloc W = V := ⟨_, rfl⟩
    have eV : [Obj.cells #[.int .i64 ((y.1 : Nat) : Int), .int .i64 fi, .int .i64 ma, .int .i64 ea] 107, .cells #[.int .i64 c, .int .i64 h, .int .i64 x, .slice A n cA] 26, .cells #[.int .i64 a] 3].foldl World.alloc W = V := by rw [← hos]; exact hV
    rw [hV] at hV0 iS iN iA isz
    simp only [List.foldl_cons, List.foldl_nil] at eV
    rw [eV]
    clear hV hos eV os
    have BV := Lib.hid hV0
    clear hV0 x0 x1 x2 x3 n0 n1 n2 n3 c1 c2
    obtain ⟨ts, hts⟩ : ∃ ts, termsN ⟨c, h, x, ls⟩ ((y.1 : Nat) : Int) a = ts := ⟨_, rfl⟩
    obtain ⟨tb1, tb2⟩ := terms_bd y a
    rw [hts] at tb1 tb2
    have HT := Lib.hid hts
    have hr' : V.heap[l]? = some (.loop lr) := (BV.out.block l (Array.getElem?_eq_some_iff.1 HR.out).1).trans HR.out
    have l4 := D4.out.lt
    refine wpIn_rangeFunc_ownN (F := Fence.wide.inRound l) (l₀ := l) (r₀ := lr) rfl hr' (by omega) (gf := 98) (lb := #[.pointer (some ⟨W.heap.size + 1, 0, none⟩), .pointer (some ⟨W.heap.size, 0, none⟩), .pointer (some ⟨W.heap.size + 1 + 1, 0, none⟩)]) rfl trivial (enters_of Try.func98 (by kernel_rfl) rfl)
      ((gates1_stops (m - 1 - 1 - 1) c h x A cA n ls w HX.out LX.out hn ((y.1 : Nat) : Int) fi ma ea a ts hts (W.heap.size) (W.heap.size + 1) (W.heap.size + 1 + 1) (fun k _ => k = w.heap.size + 1 + 1 + 1 + 1) V iS iN iA (by omega) (by omega) (by omega) (fun k T hk => by omega) (chain HBB.out BV.out) f2 (by omega) (by omega) (by omega) (fun z => ⟨(tb2 z).1, by have := (tb2 z).2; omega⟩) (by omega)).inRound l) (fun h k => h.trans k) (fun W l o o' => Kx.put (by omega) W l o o') (Below.refl _ _) (fun _ => rfl)
      (fun pre' W' => ((∀ j ∈ pre', ¬ ((j.1 : Nat) : Int) = t) ∧ (((CB W' (w.heap.size + 1) 3 (.int .i64 la) ∧ CB W' (w.heap.size + 1 + 1) 3 (.int .i64 a)) ∧ CB W' (w.heap.size + 1 + 1 + 1) 3 (.int .i64 t)) ∧ NB W' (w.heap.size) c h x (.slice A n cA)) ∧ CB W' (w.heap.size + 1 + 1 + 1 + 1) 3 (.int .i64 0)) ∧ (Kx w.heap.size (fun k _ => k = w.heap.size + 1 + 1 + 1 + 1) W W' ∧ KeepsFrom W0.heap.size W W'))
      (fun q _ W' => ((q = .ret) ∧ CB W' (w.heap.size + 1 + 1 + 1 + 1) 3 (.int .i64 r)) ∧ (Below w.heap.size W W' ∧ KeepsFrom W0.heap.size W W'))
      (OwnFrom.and (OwnFrom.and (ownFrom_pure _ _) (OwnFrom.and (OwnFrom.and (OwnFrom.and (OwnFrom.and (Own.from (cb_own _ _ _) _) (Own.from (cb_own _ _ _) _)) (Own.from (cb_own _ _ _) _)) (Own.from (cells_own _ _ _ _) _)) (Own.from (cb_own _ _ _) _))) (OwnFrom.and (ownFrom_kx szW (by omega)) (ownFrom_keepsFrom (by omega))))
      (fun q => OwnFrom.and (OwnFrom.and (ownFrom_pure _ _) (Own.from (cb_own _ _ _) _)) (OwnFrom.and (ownFrom_below szW (by omega)) (ownFrom_keepsFrom (by omega))))
      ⟨⟨by simp, ⟨⟨⟨⟨D1.out.below BV.out, D2.out.below BV.out⟩, D3.out.below BV.out⟩, DM.out.below BV.out⟩, D4.out.below BV.out⟩⟩, Kx.of_below BV.out _ szW, keeps_below BV.out⟩
      (fun j a'' W' => ∃ By, w.heap.size + 1 + 1 + 1 + 1 < By ∧ GB W' By ⟨((y.1 : Nat) : Int), a, ((j.1 : Nat) : Int), ts[j].x, ts[j].w⟩ ∧ a'' = { tmps := #[.agg #[.int .i64 c, .int .i64 h, .int .i64 x, .slice A n cA], .int .i64 la, .int .i64 a, .int .i64 t, .pointer (some ⟨w.heap.size, 0, none⟩), .pointer (some ⟨w.heap.size + 1, 0, none⟩), .pointer (some ⟨w.heap.size + 1 + 1, 0, none⟩), .pointer (some ⟨w.heap.size + 1 + 1 + 1, 0, none⟩), .pointer (some ⟨w.heap.size + 1 + 1 + 1 + 1, 0, none⟩), undef, .pointer (some ⟨Bx, 0, none⟩), .int .i64 (fi + a * ea + ((j.1 : Nat) : Int)), .pointer (some ⟨By, 0, none⟩), .agg #[.int .i64 c, .int .i64 h, .int .i64 x, .slice A n cA], .func (.func 97) #[] #[.pointer (some ⟨w.heap.size + 1 + 1 + 1 + 1 + 1, 0, none⟩)], .int .i64 nu, .agg #[.int .i64 ((y.1 : Nat) : Int), .int .i64 fi, .int .i64 ma, .int .i64 ea], .pointer (some ⟨Bx, 0, none⟩), .int .i64 ((y.1 : Nat) : Int), .int .i64 la, .bool false, .agg #[.int .i64 ((y.1 : Nat) : Int), .int .i64 fi, .int .i64 ma, .int .i64 ea], .agg #[.int .i64 c, .int .i64 h, .int .i64 x, .slice A n cA], .int .i64 a, .func (.func 98) #[] #[.pointer (some ⟨W.heap.size + 1, 0, none⟩), .pointer (some ⟨W.heap.size, 0, none⟩), .pointer (some ⟨W.heap.size + 1 + 1, 0, none⟩)], .int .i64 (fi + a * ea + ((j.1 : Nat) : Int)), .agg #[.int .i64 ((y.1 : Nat) : Int), .int .i64 a, .int .i64 ((j.1 : Nat) : Int), .int .i64 ts[j].x, .int .i64 ts[j].w], undef, undef, undef, undef, undef], defers := [] })
      (fun j a'' _ P1 P2 row hs hg hr => by obtain ⟨By, e1, e2, e3⟩ := hs; exact ⟨By, e1, cells_own By _ _ _ () P1 P2 row e2 hg (fun r e => (hr r e).2), e3⟩)
      ?assign2 ?body2 ?done2 ?stop2
    case assign2 =>
      rintro l2 pre' j W' K ⟨⟨hq, ⟨⟨⟨⟨d1, d2⟩, d3⟩, dM⟩, d4⟩⟩, hKx, hKF⟩ hK
      have sz2 : w.heap.size ≤ W'.heap.size := by have := d4.lt; omega
      simp only [encG]
      gi_wp2_with fail
      have al := (Below.refl W'.heap.size W').alloc (Nat.le_refl _) (.cells #[.int .i64 ((y.1 : Nat) : Int), .int .i64 a, .int .i64 ((j.1 : Nat) : Int), .int .i64 ts[j].x, .int .i64 ts[j].w] 54)
      exact hK _ _ ((KeepsOthers.alloc _ _).from _) ((Kx.refl _ _ W').alloc sz2 _) ⟨⟨hq, ⟨⟨⟨⟨d1.below al, d2.below al⟩, d3.below al⟩, dM.below al⟩, d4.below al⟩⟩, hKx.alloc sz2 _, hKF.trans ((KeepsOthers.alloc _ _).from _)⟩ ⟨W'.heap.size, by have := d4.lt; omega, heap_alloc_new W' _, rfl⟩
    case body2 =>
      rintro l2 pre' j a'' W' hl2 _ ⟨⟨hq, ⟨⟨⟨⟨d1, d2⟩, d3⟩, dM⟩, d4⟩⟩, hKx, hKF⟩ ⟨By, hBy, bY, rfl⟩ hlt2
      have HSZ := Lib.hid hsz
      clear hsz
      have c3 := d3.cell
      obtain ⟨y0, y1, y2, y3, y4⟩ := bY.cells
      have z4 := d4.cell; have q4 := d4.frozen
      have lY := bY.lt
      obtain ⟨nn, hnn⟩ : ∃ nn, nn = fi + a * ea + ((j.1 : Nat) : Int) := ⟨_, rfl⟩
      rw [← hnn]
      have HQ := Lib.hid hq; have KX := Lib.hid hKx; have KF := Lib.hid hKF; have NN := Lib.hid hnn
      have DD1 := Lib.hid d1; have DD2 := Lib.hid d2; have DD3 := Lib.hid d3; have DDM := Lib.hid dM; have DD4 := Lib.hid d4
      clear hq d1 d2 d3 dM d4 hKx hKF hnn bY
      by_cases hh : ((j.1 : Nat) : Int) = t
      · have e1 : (((j.1 : Nat) : Int) == t) = true := by simpa using hh
        obtain rfl : nn = r := by
          rw [NN.out, ← HRR.out, ← HL.out, ← hh]
          have := index_st y (p := a) (j := j.1) (t := ts[j]) (by rw [HT.out]; exact List.getElem?_eq_getElem j.2)
          rw [this, ← FI.out, ← EA.out]
        clear hh
        gi_wp2_with fail
        exact ⟨(KeepsOthers.setCell _ _ _).from _, ⟨rfl, CB.set DD4.out _⟩, KX.out.below.setCell (p := ⟨w.heap.size + 1 + 1 + 1 + 1, 0, none⟩) (by show w.heap.size ≤ w.heap.size + 1 + 1 + 1 + 1; omega) _, KF.out.trans ((KeepsOthers.setCell _ _ _).from _)⟩
      · have e1 : (((j.1 : Nat) : Int) == t) = false := by simpa using hh
        have HH := Lib.hid hh
        clear hh
        gi_wp2_with fail
        exact ⟨KeepsFrom.refl _ _, Kx.refl _ _ _, ⟨⟨fun z hz => (List.mem_append.1 hz).elim (HQ.out z) (fun e => by simp at e; subst e; exact HH.out), ⟨⟨⟨⟨DD1.out, DD2.out⟩, DD3.out⟩, DDM.out⟩, DD4.out⟩⟩, KX.out, KF.out⟩⟩
    case done2 =>
      rintro ys' W' rfl ⟨⟨hq, ⟨⟨⟨⟨d1, d2⟩, d3⟩, dM⟩, d4⟩⟩, hKx, hKF⟩
      gi_wp2_with fail
      exact ⟨hKF, hKx, ⟨⟨fun z hz => (List.mem_append.1 hz).elim (HP.out z) (fun e => by simp at e; subst e; exact fun _ j hj => hq ⟨j, by rw [← HT.out]; exact hj⟩ (List.mem_finRange _)), ⟨⟨⟨⟨d1, d2⟩, d3⟩, dM⟩, d4⟩⟩, HBB.out.trans hKx.below⟩⟩
    case stop2 =>
      rintro q pre' W' hpre ⟨⟨rfl, e0⟩, hBW, hKF⟩
      gi_wp2_with fail
      exact ⟨hKF, ⟨rfl, e0⟩, HBB.out.trans hBW⟩
  case done =>
    rintro D ys W hD rfl ⟨⟨hp, ⟨⟨⟨⟨d1, d2⟩, d3⟩, dM⟩, d4⟩⟩, hB⟩ hK
    have z4 := d4.cell; have q4 := d4.frozen
    obtain rfl : r = -1 := HRR.out.symm.trans (index_miss hp)
    have D1 := Lib.hid d1; have D2 := Lib.hid d2; have D3 := Lib.hid d3; have DM := Lib.hid dM; have D4 := Lib.hid d4; have HBB := Lib.hid hB; have HK := Lib.hid hK
    clear d1 d2 d3 dM d4 hB hp hK
    gi_wp2_with fail
    have hK' := (KeepsOthers.setCell W ⟨w.heap.size + 1 + 1 + 1 + 1, 0, none⟩ (.int .i64 (-1))).same D _ HK.out rfl
    have F2 := CB.set D4.out (.int .i64 (-1))
    have F3 := HBB.out.setCell (p := ⟨w.heap.size + 1 + 1 + 1 + 1, 0, none⟩) (by show w.heap.size ≤ w.heap.size + 1 + 1 + 1 + 1; omega) (.int .i64 (-1))
    generalize W.setCell ⟨w.heap.size + 1 + 1 + 1 + 1, 0, none⟩ (.int .i64 (-1)) = V at F2 F3 hK' ⊢
    refine ⟨by simp, .inl ⟨_, _, rfl, run_takeDeferred hK', ?_⟩⟩
    have p0 := (cb_put (D := D) (.deferred none) F2 (by omega)).cell
    refine ⟨.int .i64 (-1), by simp [results, Try.results50, go_sem, p0], rfl, F3.trans (belowK_b (w := w) (Nat.le_refl _) V D _ _ (by omega) hK' rfl rfl)⟩
  case stop =>
    rintro D q pre W hD hpre ⟨⟨rfl, e0⟩, hB⟩ hK
    gi_wp2_with fail
    refine ⟨by simp, .inl ⟨_, _, rfl, run_takeDeferred hK, ?_⟩⟩
    have p0 := (cb_put (D := D) (.deferred none) e0 (by omega)).cell
    refine ⟨.int .i64 r, by simp [results, Try.results50, go_sem, p0], rfl, hB.trans (belowK_b (w := w) (Nat.le_refl _) W D _ _ (by omega) hK rfl rfl)⟩

end Go.Proofs.Ytnfmpladdfgadaa

namespace Go.Proofs.Ytnfmpladdfgadaa
open Go.RowKit

theorem gate_eq (a b c d e : Int) (w : World) : (binOp .eql 54 (.agg #[.int .i64 a, .int .i64 b, .int .i64 c, .int .i64 d, .int .i64 e]) (.agg #[.int .i64 a, .int .i64 b, .int .i64 c, .int .i64 d, .int .i64 e])).run Try.prog w = .ok (.bool true) w := by
  go_simp
theorem ggate_is (c h x : Int) (A : Option Addr) (cA n : Nat) (ls : List Ly) (g : Int) (G : Gt) (r : Bool) (hG : gateN ⟨c, h, x, ls⟩ g = G) (hr : hasG ⟨c, h, x, ls⟩ g = r) (w : World) (hx : Rl w A ls) (ln : n = ls.length) (hn : n ≤ 60) :
    Calls Try.prog 44 #[.agg #[.int .i64 c, .int .i64 h, .int .i64 x, .slice A n cA], .int .i64 g] w fun e w' => e = .returned (.tuple #[.agg #[.int .i64 G.l, .int .i64 G.a, .int .i64 G.t, .int .i64 G.x, .int .i64 G.w], .bool r]) ∧ Below w.heap.size w w' := by
  subst hG hr
  exact ggate8 c h x A cA n ls g w hx ln hn
theorem gtotal_is (c h x : Int) (A : Option Addr) (cA n : Nat) (ls : List Ly) (t : Int) (ht : totP (knN ⟨c, h, x, ls⟩) = t) (w : World) (hx : Rl w A ls) (ln : n = ls.length) (hn : n ≤ 60) :
    Calls Try.prog 48 #[.agg #[.int .i64 c, .int .i64 h, .int .i64 x, .slice A n cA]] w fun e w' => e = .returned (.int .i64 t) ∧ Below w.heap.size w w' := by
  subst ht
  exact gtotal8 c h x A cA n ls w hx ln hn
theorem gstages_is (c h x : Int) (A : Option Addr) (cA n : Nat) (ls : List Ly) (st : List Int) (ht : stagesN ⟨c, h, x, ls⟩ = st) (w : World) (hx : Rl w A ls) (ln : n = ls.length) (hn : n ≤ 60) :
    Calls Try.prog 46 #[.agg #[.int .i64 c, .int .i64 h, .int .i64 x, .slice A n cA]] w (RowTo icells st w) := by
  subst ht
  exact gstages8 c h x A cA n ls w hx ln hn

def ls8 : List Ly := [⟨2, 0, 0, 0⟩, ⟨3, 0, 1, 0⟩, ⟨4, 1, 0, 0⟩]
theorem h8g3 : gateN ⟨1, 1, 2, ls8⟩ 3 = ⟨2, 0, 1, 1, 1⟩ := by kernel_rfl
theorem h8i3 : hasG ⟨1, 1, 2, ls8⟩ 3 = true := by kernel_rfl
theorem h8g4 : gateN ⟨1, 1, 2, ls8⟩ 4 = ⟨0, 0, 0, 0, 0⟩ := by kernel_rfl
theorem h8i4 : hasG ⟨1, 1, 2, ls8⟩ 4 = false := by kernel_rfl
theorem h8r : rangeN ⟨1, 1, 2, ls8⟩ 1 = (2, 2) := by kernel_rfl
theorem h8l1 : lineN ⟨1, 1, 2, ls8⟩ 1 = (4, 4) := by kernel_rfl
theorem h8l2 : lineN ⟨1, 1, 2, ls8⟩ 2 = (8, 1) := by kernel_rfl
theorem h8l3 : lineN ⟨1, 1, 2, ls8⟩ 3 = (0, 0) := by kernel_rfl
theorem h8s : stagesN ⟨1, 1, 2, ls8⟩ = [0, 2] := by kernel_rfl
theorem h8t : totP (knN ⟨1, 1, 2, ls8⟩) = 4 := by kernel_rfl
theorem h8x : indexN ⟨1, 1, 2, ls8⟩ 2 0 1 = 3 := by kernel_rfl
theorem h8y : indexN ⟨1, 1, 2, ls8⟩ 1 0 0 = -1 := by kernel_rfl

set_option maxHeartbeats 4000000 in
set_option maxRecDepth 100000 in
theorem head8_any (w : World) : Calls Try.prog 39 #[] w fun e w' => e = .returned (.bool true) ∧ Below w.heap.size w w' := by
  have eq1 := gate_eq 2 0 1 1 1
  go_enter Try.func39, Try.ntmps39
  go_wp2_with fail
  obtain ⟨w0, hW⟩ : ∃ W, W = (w.alloc (.cells #[.int .i64 2, .int .i64 0, .int .i64 0, .int .i64 0, .int .i64 3, .int .i64 0, .int .i64 1, .int .i64 0, .int .i64 4, .int .i64 1, .int .i64 0, .int .i64 0] 71)).alloc (.cells #[.int .i64 1, .int .i64 1, .int .i64 2, .slice (some ⟨w.heap.size, 0, none⟩) 3 3] 26) := ⟨_, rfl⟩
  have B0 : Hid (Below w.heap.size w w0) := by rw [hW]; exact below_two w _ _
  have R0 : Hid (Rl w0 (some ⟨w.heap.size, 0, none⟩) ls8) := by
    rw [hW]
    exact rl_of_rg (rg_block ((Lib.alloc_old _ _ _ (by simp)).trans (heap_alloc_new w _)) rfl)
  have N0 : Hid (NB w0 (w.heap.size + 1) 1 1 2 (.slice (some ⟨w.heap.size, 0, none⟩) 3 3)) := by
    rw [hW]
    have := NB.new (w.alloc (.cells #[.int .i64 2, .int .i64 0, .int .i64 0, .int .i64 0, .int .i64 3, .int .i64 0, .int .i64 1, .int .i64 0, .int .i64 4, .int .i64 1, .int .i64 0, .int .i64 0] 71)) 1 1 2 (.slice (some ⟨w.heap.size, 0, none⟩) 3 3)
    rwa [World.size_alloc] at this
  rw [← hW]
  clear hW
  have lN := N0.out.lt
  obtain ⟨c0, c1, c2, c3⟩ := N0.out.cells
  refine (ggate_is 1 1 2 _ _ _ ls8 3 _ _ h8g3 h8i3 _ R0.out rfl (by decide)).mono ?_
  rintro e w1 ⟨rfl, hb⟩
  have B1 := Lib.hid (chain B0.out hb)
  have R1 := Lib.hid (R0.out.below hb)
  have N1 := Lib.hid (N0.out.below hb)
  have lN := N1.out.lt
  clear hb c0 c1 c2 c3 B0 R0 N0
  obtain ⟨c0, c1, c2, c3⟩ := N1.out.cells
  go_wp2_with fail
  obtain ⟨w2, hV⟩ : ∃ V, V = w1.alloc (.cells #[.int .i64 2, .int .i64 0, .int .i64 1, .int .i64 1, .int .i64 1] 54) := ⟨_, rfl⟩
  have hb : Below w1.heap.size w1 w2 := by rw [hV]; exact (Below.refl _ w1).alloc (Nat.le_refl _) _
  have G2 : Hid (GB w2 w1.heap.size ⟨2, 0, 1, 1, 1⟩) := by rw [hV]; exact heap_alloc_new w1 _
  rw [← hV]
  clear hV
  have B2 := Lib.hid (chain B1.out hb)
  have R2 := Lib.hid (R1.out.below hb)
  have N2 := Lib.hid (N1.out.below hb)
  have lN := N2.out.lt
  clear hb c0 c1 c2 c3 B1 R1 N1
  obtain ⟨c0, c1, c2, c3⟩ := N2.out.cells
  refine (ggate_is 1 1 2 _ _ _ ls8 4 _ _ h8g4 h8i4 _ R2.out rfl (by decide)).mono ?_
  rintro e w3 ⟨rfl, hb⟩
  have B3 := Lib.hid (chain B2.out hb)
  have R3 := Lib.hid (R2.out.below hb)
  have N3 := Lib.hid (N2.out.below hb)
  have G3 := Lib.hid (G2.out.below hb)
  have lN := N3.out.lt
  clear hb c0 c1 c2 c3 B2 R2 N2 G2
  obtain ⟨c0, c1, c2, c3⟩ := N3.out.cells
  go_wp2_with fail
  obtain ⟨w4, hV⟩ : ∃ V, V = w3.alloc (.cells #[.int .i64 0, .int .i64 0, .int .i64 0, .int .i64 0, .int .i64 0] 54) := ⟨_, rfl⟩
  have hb : Below w3.heap.size w3 w4 := by rw [hV]; exact (Below.refl _ w3).alloc (Nat.le_refl _) _
  rw [← hV]
  clear hV
  have B4 := Lib.hid (chain B3.out hb)
  have R4 := Lib.hid (R3.out.below hb)
  have N4 := Lib.hid (N3.out.below hb)
  have G4 := Lib.hid (G3.out.below hb)
  have lN := N4.out.lt
  clear hb c0 c1 c2 c3 B3 R3 N3 G3
  obtain ⟨c0, c1, c2, c3⟩ := N4.out.cells
  refine (grange8 1 1 2 _ _ _ ls8 1 2 2 h8r _ R4.out rfl (by decide)).mono ?_
  rintro e w5 ⟨rfl, hb⟩
  have B5 := Lib.hid (chain B4.out hb)
  have R5 := Lib.hid (R4.out.below hb)
  have N5 := Lib.hid (N4.out.below hb)
  have G5 := Lib.hid (G4.out.below hb)
  have lN := N5.out.lt
  clear hb c0 c1 c2 c3 B4 R4 N4 G4
  obtain ⟨c0, c1, c2, c3⟩ := N5.out.cells
  go_wp2_with fail
  refine (gline8 1 1 2 _ _ _ ls8 1 4 4 h8l1 _ R5.out rfl (by decide)).mono ?_
  rintro e w6 ⟨rfl, hb⟩
  have B6 := Lib.hid (chain B5.out hb)
  have R6 := Lib.hid (R5.out.below hb)
  have N6 := Lib.hid (N5.out.below hb)
  have G6 := Lib.hid (G5.out.below hb)
  have lN := N6.out.lt
  clear hb c0 c1 c2 c3 B5 R5 N5 G5
  obtain ⟨c0, c1, c2, c3⟩ := N6.out.cells
  go_wp2_with fail
  refine (gline8 1 1 2 _ _ _ ls8 2 8 1 h8l2 _ R6.out rfl (by decide)).mono ?_
  rintro e w7 ⟨rfl, hb⟩
  have B7 := Lib.hid (chain B6.out hb)
  have R7 := Lib.hid (R6.out.below hb)
  have N7 := Lib.hid (N6.out.below hb)
  have G7 := Lib.hid (G6.out.below hb)
  have lN := N7.out.lt
  clear hb c0 c1 c2 c3 B6 R6 N6 G6
  obtain ⟨c0, c1, c2, c3⟩ := N7.out.cells
  go_wp2_with fail
  refine (gline8 1 1 2 _ _ _ ls8 3 0 0 h8l3 _ R7.out rfl (by decide)).mono ?_
  rintro e w8 ⟨rfl, hb⟩
  have B8 := Lib.hid (chain B7.out hb)
  have R8 := Lib.hid (R7.out.below hb)
  have N8 := Lib.hid (N7.out.below hb)
  have G8 := Lib.hid (G7.out.below hb)
  have lN := N8.out.lt
  clear hb c0 c1 c2 c3 B7 R7 N7 G7
  obtain ⟨c0, c1, c2, c3⟩ := N8.out.cells
  go_wp2_with fail
  refine (gstages_is 1 1 2 _ _ _ ls8 _ h8s _ R8.out rfl (by decide)).mono ?_
  rintro e w9 ⟨A2, k2, n2, rfl, hn2, hR2, hb, hd1, hd2⟩
  obtain rfl : n2 = 2 := hn2
  have Q9 := Lib.hid hR2
  clear hd1 hd2 hR2
  have B9 := Lib.hid (chain B8.out hb)
  have R9 := Lib.hid (R8.out.below hb)
  have N9 := Lib.hid (N8.out.below hb)
  have G9 := Lib.hid (G8.out.below hb)
  have lN := N9.out.lt
  clear hb c0 c1 c2 c3 B8 R8 N8 G8
  obtain ⟨c0, c1, c2, c3⟩ := N9.out.cells
  go_wp2_with fail
  refine (same_ints [0, 2] _ _ _ _ 2 _ (Q9.out.alloc _) (rg_block (heap_alloc_new w9 _) rfl) rfl (by decide)).mono ?_
  rintro e w10 ⟨rfl, hb⟩
  have hb := ((Below.refl w9.heap.size w9).alloc (Nat.le_refl _) _).trans (hb.mono (by simp))
  have B10 := Lib.hid (chain B9.out hb)
  have R10 := Lib.hid (R9.out.below hb)
  have N10 := Lib.hid (N9.out.below hb)
  have G10 := Lib.hid (G9.out.below hb)
  have lN := N10.out.lt
  clear hb c0 c1 c2 c3 B9 R9 N9 G9
  obtain ⟨c0, c1, c2, c3⟩ := N10.out.cells
  go_wp2_with fail
  refine (gtotal_is 1 1 2 _ _ _ ls8 _ h8t _ R10.out rfl (by decide)).mono ?_
  rintro e w11 ⟨rfl, hb⟩
  have B11 := Lib.hid (chain B10.out hb)
  have R11 := Lib.hid (R10.out.below hb)
  have N11 := Lib.hid (N10.out.below hb)
  have G11 := Lib.hid (G10.out.below hb)
  have lN := N11.out.lt
  clear hb c0 c1 c2 c3 B10 R10 N10 G10
  obtain ⟨c0, c1, c2, c3⟩ := N11.out.cells
  obtain ⟨g0, g1, g2, g3, g4⟩ := G11.out.cells
  go_wp2_with fail
  clear g0 g1 g2 g3 g4
  refine (gindex8 1 1 2 _ _ _ ls8 2 0 1 3 h8x _ R11.out rfl (by decide)).mono ?_
  rintro e w12 ⟨rfl, hb⟩
  have B12 := Lib.hid (chain B11.out hb)
  have R12 := Lib.hid (R11.out.below hb)
  have N12 := Lib.hid (N11.out.below hb)
  have G12 := Lib.hid (G11.out.below hb)
  have lN := N12.out.lt
  clear hb c0 c1 c2 c3 B11 R11 N11 G11
  obtain ⟨c0, c1, c2, c3⟩ := N12.out.cells
  go_wp2_with fail
  refine (gindex8 1 1 2 _ _ _ ls8 1 0 0 (-1) h8y _ R12.out rfl (by decide)).mono ?_
  rintro e w13 ⟨rfl, hb⟩
  have B13 := Lib.hid (chain B12.out hb)
  have R13 := Lib.hid (R12.out.below hb)
  have N13 := Lib.hid (N12.out.below hb)
  have G13 := Lib.hid (G12.out.below hb)
  have lN := N13.out.lt
  clear hb c0 c1 c2 c3 B12 R12 N12 G12
  obtain ⟨c0, c1, c2, c3⟩ := N13.out.cells
  go_wp2_with fail
  go_ret
  exact ⟨rfl, B13.out⟩

end Go.Proofs.Ytnfmpladdfgadaa
