/-
  GatesBack: each gate is one product, and each product one gate.
-/
import Derived.Test.YtnfmpladdfgadaaGHead
namespace Go.Proofs.Ytnfmpladdfgadaa
open Go.RowKit

set_option maxHeartbeats 4000000 in
set_option maxRecDepth 100000 in
theorem law_gback (c h x : Int) (A : Option Addr) (cA n : Nat) (ls : List Ly) (g la a t : Int) (w : World) (hx : Rl w A ls) (ln : n = ls.length) :
    Calls Try.prog 7 #[.agg #[.int .i64 c, .int .i64 h, .int .i64 x, .slice A n cA], .int .i64 g, .int .i64 la, .int .i64 a, .int .i64 t] w fun e w' => e = .returned (.bool true) ∧ Below w.heap.size w w' := by
  have HX := Lib.hid hx; have LX := Lib.hid ln
  clear hx ln
  go_enter Try.func7, Try.ntmps7
  go_wp2_with fail
  refine (head8_any _).mono ?_
  rintro e w1 ⟨rfl, hb⟩
  have B1 := Lib.hid (chain ((Below.refl w.heap.size w).alloc (Nat.le_refl _) _) hb)
  have N1 := Lib.hid ((NB.new w c h x (.slice A n cA)).below hb)
  clear hb
  have lN := N1.out.lt
  obtain ⟨c0, c1, c2, c3⟩ := N1.out.cells
  by_cases hg : 60 < n
  · have d : decide (60 < (n : Int)) = true := by simp; omega
    go_wp2_with fail
    refine (great_any c h x A cA n _ true d).mono ?_
    rintro e w2 ⟨rfl, hb⟩
    have B2 := Lib.hid (chain B1.out hb)
    have N2 := Lib.hid (N1.out.below hb)
    clear hb c0 c1 c2 c3 lN B1 N1
    have lN := N2.out.lt
    obtain ⟨c0, c1, c2, c3⟩ := N2.out.cells
    clear hg d
    go_wp2_with fail
    go_ret
    exact ⟨rfl, B2.out⟩
  have d : decide (60 < (n : Int)) = false := by simp; omega
  have hn : n ≤ 60 := by omega
  have hn1 : n ≤ 1000 := by omega
  have l60 : ls.length ≤ 60 := by rw [← LX.out]; exact hn
  go_wp2_with fail
  refine (great_any c h x A cA n _ false d).mono ?_
  rintro e w2 ⟨rfl, hb⟩
  have B2 := Lib.hid (chain B1.out hb)
  have N2 := Lib.hid (N1.out.below hb)
  clear hb c0 c1 c2 c3 lN B1 N1
  have lN := N2.out.lt
  obtain ⟨c0, c1, c2, c3⟩ := N2.out.cells
  clear hg d
  obtain ⟨T, hT⟩ : ∃ T : Nat, T = (gatesN ⟨c, h, x, ls⟩).length := ⟨_, rfl⟩
  have t5 : T ≤ 512 := by rw [hT]; exact gates_bd
  have HT := Lib.hid hT
  have TT : Hid (totP (knN ⟨c, h, x, ls⟩) = (T : Int)) := by show _ = _; rw [hT]; exact gates_total.symm
  clear hT
  obtain ⟨G, hG⟩ : ∃ G, gateN ⟨c, h, x, ls⟩ g = G := ⟨_, rfl⟩
  have HG := Lib.hid hG
  clear hG
  by_cases hh : 0 ≤ g ∧ g < (T : Int)
  · obtain ⟨h0, h1⟩ := hh
    obtain ⟨j0, rfl⟩ : ∃ j0 : Nat, g = j0 := ⟨g.toNat, by omega⟩
    obtain ⟨G', hG'⟩ : ∃ G', (gatesN ⟨c, h, x, ls⟩)[j0]? = some G' := ⟨_, List.getElem?_eq_getElem (by rw [← HT.out]; omega)⟩
    obtain ⟨s1, s2⟩ := gate_some hG'
    obtain rfl : G' = G := s1.symm.trans HG.out
    have IX := Lib.hid (index_of hG'); have HS := Lib.hid s2
    have e1 : decide (0 ≤ (j0 : Int)) = true := by simp
    have e2 : decide ((j0 : Int) < (T : Int)) = true := by simp; omega
    have e3 : decide (j0 < T) = true := by simp; omega
    clear hG' s1 s2 h0 h1
    go_wp2_with fail
    refine (ggate_is c h x A cA n ls (j0 : Int) G' true HG.out HS.out _ (HX.out.below B2.out) LX.out hn).mono ?_
    rintro e w3 ⟨rfl, hb⟩
    have B3 := Lib.hid (chain B2.out hb)
    have N3 := Lib.hid (N2.out.below hb)
    clear hb c0 c1 c2 c3 lN B2 N2
    have lN := N3.out.lt
    obtain ⟨c0, c1, c2, c3⟩ := N3.out.cells
    go_wp2_with fail
    obtain ⟨w4, hV⟩ : ∃ V, V = w3.alloc (.cells #[.int .i64 G'.l, .int .i64 G'.a, .int .i64 G'.t, .int .i64 G'.x, .int .i64 G'.w] 54) := ⟨_, rfl⟩
    have hb : Below w3.heap.size w3 w4 := by rw [hV]; exact (Below.refl _ w3).alloc (Nat.le_refl _) _
    have Q1 : Hid (GB w4 w3.heap.size G') := by rw [hV]; exact heap_alloc_new w3 _
    rw [← hV]
    clear hV
    have B4 := Lib.hid (chain B3.out hb)
    have N4 := Lib.hid (N3.out.below hb)
    clear hb c0 c1 c2 c3 lN B3 N3
    have lN := N4.out.lt
    obtain ⟨c0, c1, c2, c3⟩ := N4.out.cells
    refine (gtotal_is c h x A cA n ls (T : Int) TT.out _ (HX.out.below B4.out) LX.out hn).mono ?_
    rintro e w5 ⟨rfl, hb⟩
    have B5 := Lib.hid (chain B4.out hb)
    have N5 := Lib.hid (N4.out.below hb)
    have Q1 := Lib.hid (Q1.out.below hb)
    clear hb c0 c1 c2 c3 lN B4 N4
    have lN := N5.out.lt
    obtain ⟨c0, c1, c2, c3⟩ := N5.out.cells
    obtain ⟨x0, x1, x2, _, _⟩ := Q1.out.cells
    go_wp2_with fail
    refine (gindex8 c h x A cA n ls G'.l G'.a G'.t (j0 : Int) IX.out _ (HX.out.below B5.out) LX.out hn).mono ?_
    rintro e w6 ⟨rfl, hb⟩
    have B6 := Lib.hid (chain B5.out hb)
    have N6 := Lib.hid (N5.out.below hb)
    have Q1 := Lib.hid (Q1.out.below hb)
    clear hb c0 c1 c2 c3 lN B5 N5
    have lN := N6.out.lt
    obtain ⟨c0, c1, c2, c3⟩ := N6.out.cells
    clear x0 x1 x2
    rcases index_found ⟨c, h, x, ls⟩ la a t with ⟨hi, _⟩ | ⟨j, G2, hi, hg, i1, i2, i3⟩
    · have HI := Lib.hid hi
      clear hi
      go_wp2_with fail
      refine (gindex8 c h x A cA n ls la a t (-1) HI.out _ (HX.out.below B6.out) LX.out hn).mono ?_
      rintro e w7 ⟨rfl, hb⟩
      have B7 := Lib.hid (chain B6.out hb)
      have N7 := Lib.hid (N6.out.below hb)
      have Q1 := Lib.hid (Q1.out.below hb)
      clear hb c0 c1 c2 c3 lN B6 N6
      have lN := N7.out.lt
      obtain ⟨c0, c1, c2, c3⟩ := N7.out.cells
      go_wp2_with fail
      go_ret
      exact ⟨rfl, B7.out⟩
    · have HI := Lib.hid hi; have GS := Lib.hid (gate_some hg)
      have q1 : (G2.l == la) = true := by simpa using i1
      have q2 : (G2.a == a) = true := by simpa using i2
      have q3 : (G2.t == t) = true := by simpa using i3
      have jz : decide ((j : Int) < 0) = false := by simp
      clear hi hg i1 i2 i3
      go_wp2_with fail
      refine (gindex8 c h x A cA n ls la a t (j : Int) HI.out _ (HX.out.below B6.out) LX.out hn).mono ?_
      rintro e w7 ⟨rfl, hb⟩
      have B7 := Lib.hid (chain B6.out hb)
      have N7 := Lib.hid (N6.out.below hb)
      have Q1 := Lib.hid (Q1.out.below hb)
      clear hb c0 c1 c2 c3 lN B6 N6
      have lN := N7.out.lt
      obtain ⟨c0, c1, c2, c3⟩ := N7.out.cells
      go_wp2_with fail
      refine (ggate_is c h x A cA n ls (j : Int) G2 true GS.out.1 GS.out.2 _ (HX.out.below B7.out) LX.out hn).mono ?_
      rintro e w8 ⟨rfl, hb⟩
      have B8 := Lib.hid (chain B7.out hb)
      have N8 := Lib.hid (N7.out.below hb)
      have Q1 := Lib.hid (Q1.out.below hb)
      clear hb c0 c1 c2 c3 lN B7 N7
      have lN := N8.out.lt
      obtain ⟨c0, c1, c2, c3⟩ := N8.out.cells
      go_wp2_with fail
      go_ret
      exact ⟨rfl, chain_alloc B8.out _⟩
  have HH : Hid (hasG ⟨c, h, x, ls⟩ g = false) := decide_eq_false (by rw [← HT.out]; exact hh)
  by_cases h0 : 0 ≤ g
  · have e1 : decide (0 ≤ g) = true := decide_eq_true h0
    have e2 : decide (g < (T : Int)) = false := decide_eq_false (by omega)
    clear h0 hh
    go_wp2_with fail
    refine (ggate_is c h x A cA n ls g G false HG.out HH.out _ (HX.out.below B2.out) LX.out hn).mono ?_
    rintro e w3 ⟨rfl, hb⟩
    have B3 := Lib.hid (chain B2.out hb)
    have N3 := Lib.hid (N2.out.below hb)
    clear hb c0 c1 c2 c3 lN B2 N2
    have lN := N3.out.lt
    obtain ⟨c0, c1, c2, c3⟩ := N3.out.cells
    go_wp2_with fail
    obtain ⟨w4, hV⟩ : ∃ V, V = w3.alloc (.cells #[.int .i64 G.l, .int .i64 G.a, .int .i64 G.t, .int .i64 G.x, .int .i64 G.w] 54) := ⟨_, rfl⟩
    have hb : Below w3.heap.size w3 w4 := by rw [hV]; exact (Below.refl _ w3).alloc (Nat.le_refl _) _
    have Q1 : Hid (GB w4 w3.heap.size G) := by rw [hV]; exact heap_alloc_new w3 _
    rw [← hV]
    clear hV
    have B4 := Lib.hid (chain B3.out hb)
    have N4 := Lib.hid (N3.out.below hb)
    clear hb c0 c1 c2 c3 lN B3 N3
    have lN := N4.out.lt
    obtain ⟨c0, c1, c2, c3⟩ := N4.out.cells
    refine (gtotal_is c h x A cA n ls (T : Int) TT.out _ (HX.out.below B4.out) LX.out hn).mono ?_
    rintro e w5 ⟨rfl, hb⟩
    have B5 := Lib.hid (chain B4.out hb)
    have N5 := Lib.hid (N4.out.below hb)
    have Q1 := Lib.hid (Q1.out.below hb)
    clear hb c0 c1 c2 c3 lN B4 N4
    have lN := N5.out.lt
    obtain ⟨c0, c1, c2, c3⟩ := N5.out.cells
    rcases index_found ⟨c, h, x, ls⟩ la a t with ⟨hi, _⟩ | ⟨j, G2, hi, hg, i1, i2, i3⟩
    · have HI := Lib.hid hi
      clear hi
      go_wp2_with fail
      refine (gindex8 c h x A cA n ls la a t (-1) HI.out _ (HX.out.below B5.out) LX.out hn).mono ?_
      rintro e w6 ⟨rfl, hb⟩
      have B6 := Lib.hid (chain B5.out hb)
      have N6 := Lib.hid (N5.out.below hb)
      have Q1 := Lib.hid (Q1.out.below hb)
      clear hb c0 c1 c2 c3 lN B5 N5
      have lN := N6.out.lt
      obtain ⟨c0, c1, c2, c3⟩ := N6.out.cells
      go_wp2_with fail
      go_ret
      exact ⟨rfl, B6.out⟩
    · have HI := Lib.hid hi; have GS := Lib.hid (gate_some hg)
      have q1 : (G2.l == la) = true := by simpa using i1
      have q2 : (G2.a == a) = true := by simpa using i2
      have q3 : (G2.t == t) = true := by simpa using i3
      have jz : decide ((j : Int) < 0) = false := by simp
      clear hi hg i1 i2 i3
      go_wp2_with fail
      refine (gindex8 c h x A cA n ls la a t (j : Int) HI.out _ (HX.out.below B5.out) LX.out hn).mono ?_
      rintro e w6 ⟨rfl, hb⟩
      have B6 := Lib.hid (chain B5.out hb)
      have N6 := Lib.hid (N5.out.below hb)
      have Q1 := Lib.hid (Q1.out.below hb)
      clear hb c0 c1 c2 c3 lN B5 N5
      have lN := N6.out.lt
      obtain ⟨c0, c1, c2, c3⟩ := N6.out.cells
      go_wp2_with fail
      refine (ggate_is c h x A cA n ls (j : Int) G2 true GS.out.1 GS.out.2 _ (HX.out.below B6.out) LX.out hn).mono ?_
      rintro e w7 ⟨rfl, hb⟩
      have B7 := Lib.hid (chain B6.out hb)
      have N7 := Lib.hid (N6.out.below hb)
      have Q1 := Lib.hid (Q1.out.below hb)
      clear hb c0 c1 c2 c3 lN B6 N6
      have lN := N7.out.lt
      obtain ⟨c0, c1, c2, c3⟩ := N7.out.cells
      go_wp2_with fail
      go_ret
      exact ⟨rfl, chain_alloc B7.out _⟩
  have e1 : decide (0 ≤ g) = false := decide_eq_false h0
  clear h0 hh
  go_wp2_with fail
  refine (ggate_is c h x A cA n ls g G false HG.out HH.out _ (HX.out.below B2.out) LX.out hn).mono ?_
  rintro e w3 ⟨rfl, hb⟩
  have B3 := Lib.hid (chain B2.out hb)
  have N3 := Lib.hid (N2.out.below hb)
  clear hb c0 c1 c2 c3 lN B2 N2
  have lN := N3.out.lt
  obtain ⟨c0, c1, c2, c3⟩ := N3.out.cells
  go_wp2_with fail
  obtain ⟨w4, hV⟩ : ∃ V, V = w3.alloc (.cells #[.int .i64 G.l, .int .i64 G.a, .int .i64 G.t, .int .i64 G.x, .int .i64 G.w] 54) := ⟨_, rfl⟩
  have hb : Below w3.heap.size w3 w4 := by rw [hV]; exact (Below.refl _ w3).alloc (Nat.le_refl _) _
  have Q1 : Hid (GB w4 w3.heap.size G) := by rw [hV]; exact heap_alloc_new w3 _
  rw [← hV]
  clear hV
  have B4 := Lib.hid (chain B3.out hb)
  have N4 := Lib.hid (N3.out.below hb)
  clear hb c0 c1 c2 c3 lN B3 N3
  have lN := N4.out.lt
  obtain ⟨c0, c1, c2, c3⟩ := N4.out.cells
  rcases index_found ⟨c, h, x, ls⟩ la a t with ⟨hi, _⟩ | ⟨j, G2, hi, hg, i1, i2, i3⟩
  · have HI := Lib.hid hi
    clear hi
    refine (gindex8 c h x A cA n ls la a t (-1) HI.out _ (HX.out.below B4.out) LX.out hn).mono ?_
    rintro e w5 ⟨rfl, hb⟩
    have B5 := Lib.hid (chain B4.out hb)
    have N5 := Lib.hid (N4.out.below hb)
    have Q1 := Lib.hid (Q1.out.below hb)
    clear hb c0 c1 c2 c3 lN B4 N4
    have lN := N5.out.lt
    obtain ⟨c0, c1, c2, c3⟩ := N5.out.cells
    go_wp2_with fail
    go_ret
    exact ⟨rfl, B5.out⟩
  · have HI := Lib.hid hi; have GS := Lib.hid (gate_some hg)
    have q1 : (G2.l == la) = true := by simpa using i1
    have q2 : (G2.a == a) = true := by simpa using i2
    have q3 : (G2.t == t) = true := by simpa using i3
    have jz : decide ((j : Int) < 0) = false := by simp
    clear hi hg i1 i2 i3
    refine (gindex8 c h x A cA n ls la a t (j : Int) HI.out _ (HX.out.below B4.out) LX.out hn).mono ?_
    rintro e w5 ⟨rfl, hb⟩
    have B5 := Lib.hid (chain B4.out hb)
    have N5 := Lib.hid (N4.out.below hb)
    have Q1 := Lib.hid (Q1.out.below hb)
    clear hb c0 c1 c2 c3 lN B4 N4
    have lN := N5.out.lt
    obtain ⟨c0, c1, c2, c3⟩ := N5.out.cells
    go_wp2_with fail
    refine (ggate_is c h x A cA n ls (j : Int) G2 true GS.out.1 GS.out.2 _ (HX.out.below B5.out) LX.out hn).mono ?_
    rintro e w6 ⟨rfl, hb⟩
    have B6 := Lib.hid (chain B5.out hb)
    have N6 := Lib.hid (N5.out.below hb)
    have Q1 := Lib.hid (Q1.out.below hb)
    clear hb c0 c1 c2 c3 lN B5 N5
    have lN := N6.out.lt
    obtain ⟨c0, c1, c2, c3⟩ := N6.out.cells
    go_wp2_with fail
    go_ret
    exact ⟨rfl, chain_alloc B6.out _⟩

end Go.Proofs.Ytnfmpladdfgadaa
