/-
  TermsTells: the terms, and the parts, of any place of any layer of any network are the document's.
-/
import Derived.Test.YtnnebdpmmkjfnaaRTerms
namespace Go.Proofs.Ytnnebdpmmkjfnaa
open Go.RowKit

theorem has_isB {c h x : Int} {ls : List Ly} {i p : Int} (hh : hasK (atN ⟨c, h, x, ls⟩ i) p = true) : isB ⟨c, h, x, ls⟩ i = true := by
  obtain ⟨hE, j, l, rfl, hl, _⟩ := has_layer hh
  have := (List.getElem?_eq_some_iff.1 hl).1
  exact isB_yes ⟨hE, by omega, by show (j : Int) < (ls.length : Int); omega⟩
theorem tn_len (c h x : Int) (ls : List Ly) (i p : Int) : (termsN ⟨c, h, x, ls⟩ i p).length ≤ 1152 := by
  unfold termsN
  by_cases hh : hasK (atN ⟨c, h, x, ls⟩ i) p = true
  · rw [if_pos hh]
    have g := good_at (has_isB hh)
    have h1 := terms_len g p
    have h2 := per_bd g
    omega
  · rw [if_neg hh]; simp
theorem pn_len (c h x : Int) (ls : List Ly) (i p : Int) : (partsN ⟨c, h, x, ls⟩ i p).length ≤ 144 := by
  unfold partsN
  by_cases hh : hasK (atN ⟨c, h, x, ls⟩ i) p = true
  · rw [if_pos hh]
    have g := good_at (has_isB hh)
    unfold partsK
    by_cases k3 : (atN ⟨c, h, x, ls⟩ i).l.k = 3
    · rw [if_pos k3, winL, win_len]
      obtain ⟨s1, d1, d2, hu⟩ := g.pool k3
      obtain ⟨_, _, r3, r4, _⟩ := right_bd g.2.1
      have s2 : (atN ⟨c, h, x, ls⟩ i).l.s ≤ 12 := by
        by_cases hle : (atN ⟨c, h, x, ls⟩ i).l.s ≤ (atN ⟨c, h, x, ls⟩ i).i.h
        · omega
        · rw [Int.emod_eq_of_lt (by omega) (by omega)] at d1; omega
      exact Nat.mul_le_mul (show _ ≤ 12 by omega) (show _ ≤ 12 by omega)
    · rw [if_neg k3]; simp
  · rw [if_neg hh]; simp

set_option maxHeartbeats 4000000 in
set_option maxRecDepth 100000 in
theorem law_terms (c h x : Int) (A : Option Addr) (cA n : Nat) (ls : List Ly) (i p : Int) (w : World) (hx : Rl w A ls) (ln : n = ls.length) :
    Calls Try.prog 7 #[.agg #[.int .i64 c, .int .i64 h, .int .i64 x, .slice A n cA], .int .i64 i, .int .i64 p] w fun e w' => e = .returned (.bool true) ∧ Below w.heap.size w w' := by
  have HX := Lib.hid hx; have LX := Lib.hid ln
  clear hx ln
  go_enter Try.func7, Try.ntmps7
  go_wp2_with fail
  refine (head6_any _).mono ?_
  rintro e w1 ⟨rfl, hb⟩
  have B1 := Lib.hid (chain ((Below.refl w.heap.size w).alloc (Nat.le_refl _) _) hb)
  have hN := (NB.new w c h x (.slice A n cA)).below hb
  have N1 := Lib.hid hN
  obtain ⟨c0, c1, c2, c3⟩ := hN.cells
  clear hb hN
  by_cases hg : 60 < n
  · have d : decide (60 < (n : Int)) = true := by simp; omega
    go_wp2_with fail
    refine (great_any c h x A cA n _ true d).mono ?_
    rintro e w2 ⟨rfl, hb⟩
    have B2 := Lib.hid (chain B1.out hb)
    clear hb
    go_wp2_with fail
    go_ret
    exact ⟨rfl, B2.out⟩
  have d : decide (60 < (n : Int)) = false := by simp; omega
  have hn : n ≤ 60 := by omega
  have hn1 : n ≤ 1000 := by omega
  go_wp2_with fail
  refine (great_any c h x A cA n _ false d).mono ?_
  rintro e w2 ⟨rfl, hb⟩
  have B2 := Lib.hid (chain B1.out hb)
  have N2 := Lib.hid (N1.out.below hb)
  clear hb B1 N1 c0 c1 c2 c3 hg d
  obtain ⟨c0, c1, c2, c3⟩ := N2.out.cells
  obtain ⟨ts, hts⟩ : ∃ ts, termsN ⟨c, h, x, ls⟩ i p = ts := ⟨_, rfl⟩
  obtain ⟨xs, hxs⟩ : ∃ xs, partsN ⟨c, h, x, ls⟩ i p = xs := ⟨_, rfl⟩
  have tl : ts.length ≤ 5000 := by have := tn_len c h x ls i p; rw [hts] at this; omega
  have xl : xs.length ≤ 5000 := by have := pn_len c h x ls i p; rw [hxs] at this; omega
  have KA : Hid (∀ w, Rl w A ls → Calls Try.prog 32 #[.agg #[.int .i64 c, .int .i64 h, .int .i64 x, .slice A n cA], .int .i64 i, .int .i64 p] w (RowTo tcells ts w)) := fun w hx => by
    rw [← hts]; exact rterms_any c h x A cA n ls i p w hx LX.out hn1
  have KB2 : Hid (∀ w, Rl w A ls → Calls Try.prog 35 #[.agg #[.int .i64 c, .int .i64 h, .int .i64 x, .slice A n cA], .int .i64 i, .int .i64 p] w (RowTo icells xs w)) := fun w hx => by
    rw [← hxs]; exact rparts_any c h x A cA n ls i p w hx LX.out hn1
  have HTS := Lib.hid hts; have HXS := Lib.hid hxs; have HTL := Lib.hid tl; have HXL := Lib.hid xl
  clear hts hxs tl xl
  go_wp2_with fail
  have HC : Hid (Below w.heap.size w w2.drew) := B2.out.drew
  have ND : Hid (NB w2.drew w.heap.size c h x (.slice A n cA)) := N2.out
  have tok1 : True := trivial
  go_region_held3 (fun w' => w'.cell? ⟨w.heap.size, 0, none⟩ = some (.int .i64 c) ∧ w'.cell? ⟨w.heap.size, 1, none⟩ = some (.int .i64 h) ∧ w'.cell? ⟨w.heap.size, 2, none⟩ = some (.int .i64 x) ∧ w'.cell? ⟨w.heap.size, 3, none⟩ = some (.slice A n cA))
    (first | exact ⟨q0, q1, q2, q3⟩ | go_keep)
    (first
      | ((have _t := tok1; clear tok1; go_at_call 31; (with_reducible refine (terms_any c h x A cA n ls i p ts HTS.out _ (HX.out.below HC.out) LX.out hn1).mono ?_); rintro e w9 ⟨A1, k1, n1, rfl, hl1, hR1, hb, hd1, hd2⟩
          have L1 := Lib.hid hl1
          have R1 := Lib.hid hR1
          clear hl1 hR1 hd1 hd2
          have HC9 := Lib.hid (chain HC.out hb)
          have ND9 := Lib.hid (ND.out.below hb)
          clear HC ND hb
          have HC := HC9
          have ND := ND9
          clear HC9 ND9
          have tok2 : True := trivial
          obtain ⟨q0, q1, q2, q3⟩ := ND.out.cells))
      | ((have _t := tok2; clear tok2; go_at_call 32; (with_reducible refine (KA.out _ (HX.out.below HC.out)).mono ?_); rintro e w9 ⟨A2, k2, n2, rfl, hl2, hR2, hb, hd1, hd2⟩
          have R1' := Lib.hid (R1.out.below hb)
          clear R1
          have R1 := R1'
          clear R1'
          obtain rfl : n2 = n1 := by rw [hl2]; exact L1.out.symm
          have R2 := Lib.hid hR2
          clear hl2 hR2 hd1 hd2
          have HC9 := Lib.hid (chain HC.out hb)
          have ND9 := Lib.hid (ND.out.below hb)
          clear HC ND hb
          have HC := HC9
          have ND := ND9
          clear HC9 ND9
          have tok3 : True := trivial
          obtain ⟨q0, q1, q2, q3⟩ := ND.out.cells))
      | ((have _t := tok3; clear tok3; go_at_call 30; (with_reducible refine (same_terms ts A1 A2 k1 k2 n2 _ R1.out R2.out L1.out (by rw [L1.out]; exact HTL.out)).mono ?_); rintro e w9 ⟨rfl, hb⟩
          have HC9 := Lib.hid (chain HC.out hb)
          have ND9 := Lib.hid (ND.out.below hb)
          clear HC ND hb
          have HC := HC9
          have ND := ND9
          clear HC9 ND9
          have tok4 : True := trivial
          obtain ⟨q0, q1, q2, q3⟩ := ND.out.cells))
      | ((have _t := tok4; clear tok4; go_at_call 34; (with_reducible refine (parts_any c h x A cA n ls i p xs HXS.out _ (HX.out.below HC.out) LX.out hn1).mono ?_); rintro e w9 ⟨A3, k3, n3, rfl, hl3, hR3, hb, hd1, hd2⟩
          have L3 := Lib.hid hl3
          have R3 := Lib.hid hR3
          clear hl3 hR3 hd1 hd2
          have HC9 := Lib.hid (chain HC.out hb)
          have ND9 := Lib.hid (ND.out.below hb)
          clear HC ND hb
          have HC := HC9
          have ND := ND9
          clear HC9 ND9
          have tok5 : True := trivial
          obtain ⟨q0, q1, q2, q3⟩ := ND.out.cells))
      | ((have _t := tok5; clear tok5; go_at_call 35; (with_reducible refine (KB2.out _ (HX.out.below HC.out)).mono ?_); rintro e w9 ⟨A4, k4, n4, rfl, hl4, hR4, hb, hd1, hd2⟩
          have R3' := Lib.hid (R3.out.below hb)
          clear R3
          have R3 := R3'
          clear R3'
          obtain rfl : n4 = n3 := by rw [hl4]; exact L3.out.symm
          have R4 := Lib.hid hR4
          clear hl4 hR4 hd1 hd2
          have HC9 := Lib.hid (chain HC.out hb)
          have ND9 := Lib.hid (ND.out.below hb)
          clear HC ND hb
          have HC := HC9
          have ND := ND9
          clear HC9 ND9
          have tok6 : True := trivial
          obtain ⟨q0, q1, q2, q3⟩ := ND.out.cells))
      | ((have _t := tok6; clear tok6; go_at_call 33; (with_reducible refine (same_ints xs A3 A4 k3 k4 n4 _ R3.out R4.out L3.out (by rw [L3.out]; exact HXL.out)).mono ?_); rintro e w9 ⟨rfl, hb⟩
          have HC9 := Lib.hid (chain HC.out hb)
          have ND9 := Lib.hid (ND.out.below hb)
          clear HC ND hb
          have HC := HC9
          have ND := ND9
          clear HC9 ND9
          have tok7 : True := trivial
          obtain ⟨q0, q1, q2, q3⟩ := ND.out.cells))
      | fail)
  go_wp2_with fail
  go_ret
  exact ⟨rfl, HC.out⟩

end Go.Proofs.Ytnnebdpmmkjfnaa
