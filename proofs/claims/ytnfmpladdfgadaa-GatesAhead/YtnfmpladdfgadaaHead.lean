/-
  The fixed questions of layer 5.
-/
import Derived.Test.YtnfmpladdfgadaaShapes
namespace Go.Proofs.Ytnfmpladdfgadaa
open Go.RowKit

def lycells (l : Ly) : List Value := [.int .i64 l.k, .int .i64 l.o, .int .i64 l.s, .int .i64 l.t]
theorem lycells_len (l : Ly) : (lycells l).length = 4 := rfl
theorem rl_of_rg {w : World} {A : Option Addr} {ls : List Ly} (h : Rg lycells w A ls) : Rl w A ls := fun h0 => by
  obtain ⟨b, off, e, hlt, hc⟩ := h h0
  refine ⟨b, off, e, hlt, fun j hj => ?_⟩
  have q := Rg.at lycells_len hc (get_ly hj)
  exact ⟨q 0 _ rfl, q 1 _ rfl, q 2 _ rfl, q 3 _ rfl⟩
theorem rg_block {α : Type} {f : α → List Value} {w : World} {g T : Nat} {fr : Nat × Nat} {cs : Array Value} {xs : List α} (h : w.heap[g]? = some (.cells cs T fr)) (e : cs.toList = xs.flatMap f) : Rg f w (some ⟨g, 0, none⟩) xs := fun _ =>
  ⟨g, 0, rfl, (Array.getElem?_eq_some_iff.1 h).1, fun j u hj => by
    rw [Nat.zero_add, Lib.cell_of_heap h, ← Array.getElem?_toList, e]; exact hj⟩

def ls0 : List Ly := [⟨1, 2, 3, 1⟩, ⟨2, 0, 0, 0⟩, ⟨3, 0, 2, 0⟩, ⟨4, 3, 0, 0⟩]
def sh0 : List Sh := [⟨1, 4, 4⟩, ⟨2, 2, 2⟩, ⟨2, 2, 2⟩, ⟨2, 1, 1⟩, ⟨3, 1, 1⟩]
theorem err0 : errN ⟨1, 4, 4, ls0⟩ = 0 := by decide +kernel
theorem shn0 : shN ⟨1, 4, 4, ls0⟩ = sh0 := by kernel_rfl
theorem err1 : errN ⟨1, 4, 4, [⟨3, 0, 3, 0⟩]⟩ = 21 := by decide +kernel
theorem err2 : errN ⟨0, 4, 4, []⟩ = 1 := by decide +kernel
theorem err3 : errN ⟨8, 4, 4, [⟨4, 5, 0, 0⟩]⟩ = 5 := by decide +kernel
theorem at0 : (atN ⟨1, 4, 4, ls0⟩ 3).a = 18 ∧ (atN ⟨1, 4, 4, ls0⟩ 3).w = 6 ∧ (atN ⟨1, 4, 4, ls0⟩ 0).p = 72 ∧ (atN ⟨1, 4, 4, ls0⟩ 1).p = 8 := by decide +kernel
theorem tot0 : totW (knN ⟨1, 4, 4, ls0⟩) = 24 ∧ totP (knN ⟨1, 4, 4, ls0⟩) = 86 := by decide +kernel

/-- What Small answers. -/
def SmallTo (w : World) (e : Ending) (w' : World) : Prop := ∃ g, e = .returned (.agg #[.int .i64 1, .int .i64 4, .int .i64 4, .slice (some ⟨g, 0, none⟩) 4 4]) ∧ Rl w' (some ⟨g, 0, none⟩) ls0 ∧ Below w.heap.size w w'
set_option maxHeartbeats 1000000 in
theorem small_any (w : World) : Calls Try.prog 53 #[] w (SmallTo w) := by
  go_enter Try.func53, Try.ntmps53
  go_wp2
  have h := heap_alloc_new (w.alloc (.cells #[.int .i64 1, .int .i64 4, .int .i64 4, .slice (some ⟨w.heap.size + 1, 0, none⟩) 4 4] 26)) (.cells #[.int .i64 1, .int .i64 2, .int .i64 3, .int .i64 1, .int .i64 2, .int .i64 0, .int .i64 0, .int .i64 0, .int .i64 3, .int .i64 0, .int .i64 2, .int .i64 0, .int .i64 4, .int .i64 3, .int .i64 0, .int .i64 0] 71)
  rw [show (w.alloc _).heap.size = w.heap.size + 1 by simp] at h
  exact bodyPost_ret (v := .agg #[.int .i64 1, .int .i64 4, .int .i64 4, .slice (some ⟨w.heap.size + 1, 0, none⟩) 4 4]) (by simp [results, Try.results53, go_sem]) rfl ⟨w.heap.size + 1, rfl, rl_of_rg (rg_block h rfl), below_two w _ _⟩

theorem shapes_is (c h x : Int) (A : Option Addr) (cA n : Nat) (ls : List Ly) (er : Int) (ss : List Sh) (he : errN ⟨c, h, x, ls⟩ = er) (hs : shN ⟨c, h, x, ls⟩ = ss) (w : World) (hx : Rl w A ls) (ln : n = ls.length) (hn : n ≤ 1000) :
    Calls Try.prog 14 #[.agg #[.int .i64 c, .int .i64 h, .int .i64 x, .slice A n cA]] w fun e w' => ∃ (A : Option Addr) (k n : Nat), e = .returned (.tuple #[.slice A n k, .int .i64 er]) ∧ n = ss.length ∧ Rs w' A ss ∧ Below w.heap.size w w' ∧ n ≤ k ∧ k ≤ maxLen := by
  subst he hs
  exact shapes_any c h x A cA n ls w hx ln hn
theorem weights_to (c h x : Int) (A : Option Addr) (cA n : Nat) (ls : List Ly) (i a b : Int) (ha : (atN ⟨c, h, x, ls⟩ i).a = a) (hb : (atN ⟨c, h, x, ls⟩ i).w = b) (w : World) (hx : Rl w A ls) (ln : n = ls.length) (hn : n ≤ 1000) :
    Calls Try.prog 16 #[.agg #[.int .i64 c, .int .i64 h, .int .i64 x, .slice A n cA], .int .i64 i] w fun e w' => e = .returned (.tuple #[.int .i64 a, .int .i64 b]) ∧ Below w.heap.size w w' := by
  subst ha hb
  exact weights_of c h x A cA n ls i w hx ln hn
theorem products_to (c h x : Int) (A : Option Addr) (cA n : Nat) (ls : List Ly) (i a : Int) (ha : (atN ⟨c, h, x, ls⟩ i).p = a) (w : World) (hx : Rl w A ls) (ln : n = ls.length) (hn : n ≤ 1000) :
    Calls Try.prog 23 #[.agg #[.int .i64 c, .int .i64 h, .int .i64 x, .slice A n cA], .int .i64 i] w fun e w' => e = .returned (.int .i64 a) ∧ Below w.heap.size w w' := by
  subst ha
  exact products_of c h x A cA n ls i w hx ln hn
theorem all_to (c h x : Int) (A : Option Addr) (cA n : Nat) (ls : List Ly) (a b : Int) (ha : totW (knN ⟨c, h, x, ls⟩) = a) (hb : totP (knN ⟨c, h, x, ls⟩) = b) (w : World) (hx : Rl w A ls) (ln : n = ls.length) (hn : n ≤ 1000) :
    Calls Try.prog 18 #[.agg #[.int .i64 c, .int .i64 h, .int .i64 x, .slice A n cA]] w fun e w' => e = .returned (.tuple #[.int .i64 a, .int .i64 b]) ∧ Below w.heap.size w w' := by
  subst ha hb
  exact all_any c h x A cA n ls w hx ln hn
theorem okay_to (c h x : Int) (A : Option Addr) (cA n : Nat) (ls : List Ly) (r : Bool) (hr : (errN ⟨c, h, x, ls⟩ == 0) = r) (w : World) (hx : Rl w A ls) (ln : n = ls.length) (hn : n ≤ 1000) :
    Calls Try.prog 21 #[.agg #[.int .i64 c, .int .i64 h, .int .i64 x, .slice A n cA]] w fun e w' => e = .returned (.bool r) ∧ Below w.heap.size w w' := by
  subst hr
  exact okay_any c h x A cA n ls w hx ln hn

set_option maxHeartbeats 4000000 in
set_option maxRecDepth 100000 in
theorem head_any (w : World) : Calls Try.prog 12 #[] w fun e w' => e = .returned (.bool true) ∧ Below w.heap.size w w' := by
  go_enter Try.func12, Try.ntmps12
  go_wp2_with fail
  refine (small_any w).mono ?_
  rintro e w1 ⟨g1, rfl, hx, hb⟩
  have R := Lib.hid hx
  have B1 := Lib.hid hb
  clear hx hb
  go_wp2_with fail
  refine (shapes_is 1 4 4 _ _ _ ls0 0 sh0 err0 shn0 _ R.out rfl (by decide)).mono ?_
  rintro e w2 ⟨A2, k2, n2, rfl, hn2, hR2, hb, hd1, hd2⟩
  obtain rfl : n2 = 5 := hn2
  have S2 := Lib.hid hR2
  have B2 := Lib.hid (chain B1.out hb)
  clear hR2 hb hd1 hd2 R B1
  go_wp2_with fail
  refine (shapes_is 1 4 4 _ _ _ [⟨3, 0, 3, 0⟩] 21 _ err1 rfl _ (rl_of_rg (rg_block (heap_alloc_new w2 _) rfl)) rfl (by decide)).mono ?_
  rintro e w3 ⟨A3, k3, n3, rfl, hn3, hR3, hb, hd1, hd2⟩
  have hb := ((Below.refl w2.heap.size w2).alloc (Nat.le_refl _) _).trans (hb.mono (by simp))
  have S3 := Lib.hid (S2.out.below hb)
  have B3 := Lib.hid (chain B2.out hb)
  clear hn3 hR3 hb hd1 hd2 S2 B2
  go_wp2_with fail
  refine (shapes_is 0 4 4 _ _ _ [] 1 _ err2 rfl _ (Rl.nil _ _) rfl (by decide)).mono ?_
  rintro e w4 ⟨A4, k4, n4, rfl, hn4, hR4, hb, hd1, hd2⟩
  have S4 := Lib.hid (S3.out.below hb)
  have B4 := Lib.hid (chain B3.out hb)
  clear hn4 hR4 hb hd1 hd2 S3 B3
  go_wp2_with fail
  refine (shapes_is 8 4 4 _ _ _ [⟨4, 5, 0, 0⟩] 5 _ err3 rfl _ (rl_of_rg (rg_block (heap_alloc_new w4 _) rfl)) rfl (by decide)).mono ?_
  rintro e w5 ⟨A5, k5, n5, rfl, hn5, hR5, hb, hd1, hd2⟩
  have hb := ((Below.refl w4.heap.size w4).alloc (Nat.le_refl _) _).trans (hb.mono (by simp))
  have S5 := Lib.hid (S4.out.below hb)
  have B5 := Lib.hid (chain B4.out hb)
  clear hn5 hR5 hb hd1 hd2 S4 B4
  go_wp2_with fail
  refine (small_any w5).mono ?_
  rintro e w6 ⟨g6, rfl, hx, hb⟩
  have R := Lib.hid hx
  have S6 := Lib.hid (S5.out.below hb)
  have B6 := Lib.hid (chain B5.out hb)
  clear hx hb S5 B5
  go_wp2_with fail
  refine (weights_to 1 4 4 _ _ _ ls0 3 18 6 at0.1 at0.2.1 _ R.out rfl (by decide)).mono ?_
  rintro e w7 ⟨rfl, hb⟩
  have S7 := Lib.hid (S6.out.below hb)
  have B7 := Lib.hid (chain B6.out hb)
  clear hb R S6 B6
  go_wp2_with fail
  refine (small_any w7).mono ?_
  rintro e w8 ⟨g8, rfl, hx, hb⟩
  have R := Lib.hid hx
  have S8 := Lib.hid (S7.out.below hb)
  have B8 := Lib.hid (chain B7.out hb)
  clear hx hb S7 B7
  go_wp2_with fail
  refine (all_to 1 4 4 _ _ _ ls0 24 86 tot0.1 tot0.2 _ R.out rfl (by decide)).mono ?_
  rintro e w9 ⟨rfl, hb⟩
  have S9 := Lib.hid (S8.out.below hb)
  have B9 := Lib.hid (chain B8.out hb)
  clear hb R S8 B8
  go_wp2_with fail
  refine (same_any sh0 _ _ _ _ 5 _ (S9.out.alloc _) (rg_block (heap_alloc_new w9 _) rfl) rfl (by decide)).mono ?_
  rintro e w10 ⟨rfl, hb⟩
  have B10 := Lib.hid (chain (chain_alloc B9.out _) hb)
  clear hb S9 B9
  go_wp2_with fail
  refine (small_any w10).mono ?_
  rintro e w11 ⟨g11, rfl, hx, hb⟩
  have R := Lib.hid hx
  have B11 := Lib.hid (chain B10.out hb)
  clear hx hb B10
  go_wp2_with fail
  refine (products_to 1 4 4 _ _ _ ls0 0 72 at0.2.2.1 _ R.out rfl (by decide)).mono ?_
  rintro e w12 ⟨rfl, hb⟩
  have B12 := Lib.hid (chain B11.out hb)
  clear hb R B11
  go_wp2_with fail
  refine (small_any w12).mono ?_
  rintro e w13 ⟨g13, rfl, hx, hb⟩
  have R := Lib.hid hx
  have B13 := Lib.hid (chain B12.out hb)
  clear hx hb B12
  go_wp2_with fail
  refine (products_to 1 4 4 _ _ _ ls0 1 8 at0.2.2.2 _ R.out rfl (by decide)).mono ?_
  rintro e w14 ⟨rfl, hb⟩
  have B14 := Lib.hid (chain B13.out hb)
  clear hb R B13
  go_wp2_with fail
  refine (small_any w14).mono ?_
  rintro e w15 ⟨g15, rfl, hx, hb⟩
  have R := Lib.hid hx
  have B15 := Lib.hid (chain B14.out hb)
  clear hx hb B14
  go_wp2_with fail
  refine (okay_to 1 4 4 _ _ _ ls0 true (by rw [err0]; rfl) _ R.out rfl (by decide)).mono ?_
  rintro e w16 ⟨rfl, hb⟩
  have B16 := Lib.hid (chain B15.out hb)
  clear hb R B15
  go_wp2_with fail
  go_ret
  exact ⟨rfl, B16.out⟩

end Go.Proofs.Ytnfmpladdfgadaa
