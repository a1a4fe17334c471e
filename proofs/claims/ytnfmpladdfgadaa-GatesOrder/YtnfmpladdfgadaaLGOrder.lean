/-
  GatesOrder: of two gates the lesser one is of an earlier layer, or place, or term.
-/
import Derived.Test.YtnfmpladdfgadaaGHead
namespace Go.Proofs.Ytnfmpladdfgadaa
open Go.RowKit

set_option maxHeartbeats 4000000 in
set_option maxRecDepth 100000 in
theorem law_gorder (c h x : Int) (A : Option Addr) (cA n : Nat) (ls : List Ly) (g q : Int) (w : World) (hx : Rl w A ls) (ln : n = ls.length) (bg : 0 ≤ g ∧ g ≤ 65535) (bq : 0 ≤ q ∧ q ≤ 65535) :
    Calls Try.prog 11 #[.agg #[.int .i64 c, .int .i64 h, .int .i64 x, .slice A n cA], .int .u16 g, .int .u16 q] w fun e w' => e = .returned (.bool true) ∧ Below w.heap.size w w' := by
  have HX := Lib.hid hx; have LX := Lib.hid ln
  clear hx ln
  obtain ⟨bg0, bg1⟩ := bg
  obtain ⟨bq0, bq1⟩ := bq
  go_enter Try.func11, Try.ntmps11
  go_wp2_with fail
  refine (head8_any _).mono ?_
  rintro e w1 ⟨rfl, hb⟩
  have B1 := Lib.hid (chain ((Below.refl w.heap.size w).alloc (Nat.le_refl _) _) hb)
  have N1 := Lib.hid ((NB.new w c h x (.slice A n cA)).below hb)
  clear hb
  have lN := N1.out.lt
  obtain ⟨c0, c1, c2, c3⟩ := N1.out.cells
  by_cases hg : 60 < n
  · have d : decide (60 < (n : Int)) = true := by simp; omega
    go_wp2_with fail
    refine (great_any c h x A cA n _ true d).mono ?_
    rintro e w2 ⟨rfl, hb⟩
    have B2 := Lib.hid (chain B1.out hb)
    have N2 := Lib.hid (N1.out.below hb)
    clear hb c0 c1 c2 c3 lN B1 N1
    have lN := N2.out.lt
    obtain ⟨c0, c1, c2, c3⟩ := N2.out.cells
    clear hg d
    go_wp2_with fail
    go_ret
    exact ⟨rfl, B2.out⟩
  have d : decide (60 < (n : Int)) = false := by simp; omega
  have hn : n ≤ 60 := by omega
  have hn1 : n ≤ 1000 := by omega
  have l60 : ls.length ≤ 60 := by rw [← LX.out]; exact hn
  go_wp2_with fail
  refine (great_any c h x A cA n _ false d).mono ?_
  rintro e w2 ⟨rfl, hb⟩
  have B2 := Lib.hid (chain B1.out hb)
  have N2 := Lib.hid (N1.out.below hb)
  clear hb c0 c1 c2 c3 lN B1 N1
  have lN := N2.out.lt
  obtain ⟨c0, c1, c2, c3⟩ := N2.out.cells
  clear hg d
  obtain ⟨t, ht⟩ : ∃ t : Nat, t = (gatesN ⟨c, h, x, ls⟩).length := ⟨_, rfl⟩
  have t5 : t ≤ 512 := by rw [ht]; exact gates_bd
  have HT := Lib.hid ht
  have TT : Hid (totP (knN ⟨c, h, x, ls⟩) = (t : Int)) := by show _ = _; rw [ht]; exact gates_total.symm
  clear ht
  go_wp2_with fail
  refine (gtotal_is c h x A cA n ls (t : Int) TT.out _ (HX.out.below B2.out) LX.out hn).mono ?_
  rintro e w3 ⟨rfl, hb⟩
  have B3 := Lib.hid (chain B2.out hb)
  have N3 := Lib.hid (N2.out.below hb)
  clear hb c0 c1 c2 c3 lN B2 N2
  have lN := N3.out.lt
  obtain ⟨c0, c1, c2, c3⟩ := N3.out.cells
  by_cases t0 : t = 0
  · have e1 : decide ((t : Int) < 1) = true := by simp; omega
    have e2 : ((t : Int) == 0) = true := by simp; omega
    have e3 : t = 0 := t0
    clear t0
    subst e3
    go_wp2_with fail
    go_ret
    exact ⟨rfl, B3.out⟩
  have e1 : decide ((t : Int) < 1) = false := by simp; omega
  have e2 : decide (512 < (t : Int)) = false := by simp; omega
  have tz : ¬ (t : Int) = 0 := by omega
  obtain ⟨a, ha⟩ : ∃ a : Nat, g % (t : Int) = (a : Int) := ⟨(g % (t : Int)).toNat, by have := Int.emod_nonneg g tz; omega⟩
  obtain ⟨b, hb0⟩ : ∃ b : Nat, q % (t : Int) = (b : Int) := ⟨(q % (t : Int)).toNat, by have := Int.emod_nonneg q tz; omega⟩
  have al : a < t := by have := Int.emod_lt_of_pos g (show 0 < (t : Int) by omega); omega
  have bl : b < t := by have := Int.emod_lt_of_pos q (show 0 < (t : Int) by omega); omega
  have ga : g.tmod (t : Int) = (a : Int) := by rw [Int.tmod_eq_emod_of_nonneg bg0]; exact ha
  have qb : q.tmod (t : Int) = (b : Int) := by rw [Int.tmod_eq_emod_of_nonneg bq0]; exact hb0
  obtain ⟨G, hG⟩ : ∃ G, (gatesN ⟨c, h, x, ls⟩)[a]? = some G := ⟨_, List.getElem?_eq_getElem (by rw [← HT.out]; exact al)⟩
  obtain ⟨K, hK⟩ : ∃ K, (gatesN ⟨c, h, x, ls⟩)[b]? = some K := ⟨_, List.getElem?_eq_getElem (by rw [← HT.out]; exact bl)⟩
  have AI := Lib.hid (ahead_iff hG hK)
  have G1 := Lib.hid (gate_some hG); have K1 := Lib.hid (gate_some hK)
  clear t0 ha hb0 hG hK
  go_wp2_with fail
  refine (ggate_is c h x A cA n ls (a : Int) G true G1.out.1 G1.out.2 _ (HX.out.below B3.out) LX.out hn).mono ?_
  rintro e w4 ⟨rfl, hb⟩
  have B4 := Lib.hid (chain B3.out hb)
  have N4 := Lib.hid (N3.out.below hb)
  clear hb c0 c1 c2 c3 lN B3 N3
  have lN := N4.out.lt
  obtain ⟨c0, c1, c2, c3⟩ := N4.out.cells
  go_wp2_with fail
  obtain ⟨w5, hV⟩ : ∃ V, V = w4.alloc (.cells #[.int .i64 G.l, .int .i64 G.a, .int .i64 G.t, .int .i64 G.x, .int .i64 G.w] 54) := ⟨_, rfl⟩
  have hb : Below w4.heap.size w4 w5 := by rw [hV]; exact (Below.refl _ w4).alloc (Nat.le_refl _) _
  have Q1 : Hid (GB w5 w4.heap.size G) := by rw [hV]; exact heap_alloc_new w4 _
  rw [← hV]
  clear hV
  have B5 := Lib.hid (chain B4.out hb)
  have N5 := Lib.hid (N4.out.below hb)
  clear hb c0 c1 c2 c3 lN B4 N4
  have lN := N5.out.lt
  obtain ⟨c0, c1, c2, c3⟩ := N5.out.cells
  refine (ggate_is c h x A cA n ls (b : Int) K true K1.out.1 K1.out.2 _ (HX.out.below B5.out) LX.out hn).mono ?_
  rintro e w6 ⟨rfl, hb⟩
  have B6 := Lib.hid (chain B5.out hb)
  have N6 := Lib.hid (N5.out.below hb)
  have Q1 := Lib.hid (Q1.out.below hb)
  clear hb c0 c1 c2 c3 lN B5 N5
  have lN := N6.out.lt
  obtain ⟨c0, c1, c2, c3⟩ := N6.out.cells
  obtain ⟨x0, x1, x2, _, _⟩ := Q1.out.cells
  have lQ := Q1.out.lt
  have HA : Hid (Ahead G K ↔ a < b) := AI.out
  clear e1 e2 tz ga qb al bl c0 c1 c2 c3
  by_cases p1 : G.l < K.l
  · have q1 : decide (G.l < K.l) = true := decide_eq_true p1
    have dab : decide ((a : Int) < (b : Int)) = true := by
      have := HA.out
      unfold Ahead at this
      exact decide_eq_true (by omega)
    have dab2 : decide (a < b) = true := by
      have := HA.out
      unfold Ahead at this
      exact decide_eq_true (by omega)
    clear HA AI p1
    go_wp2_with fail
    go_ret
    exact ⟨rfl, chain_alloc B6.out _⟩
  have q1 : decide (G.l < K.l) = false := decide_eq_false p1
  by_cases p2 : ¬ G.l = K.l
  · have q2 : (G.l == K.l) = false := by simpa using p2
    have dab : decide ((a : Int) < (b : Int)) = false := by
      have := HA.out
      unfold Ahead at this
      exact decide_eq_false (by omega)
    have dab2 : decide (a < b) = false := by
      have := HA.out
      unfold Ahead at this
      exact decide_eq_false (by omega)
    clear HA AI p1 p2
    go_wp2_with fail
    go_ret
    exact ⟨rfl, chain_alloc B6.out _⟩
  have p2 := Decidable.not_not.1 p2
  have q2 : (G.l == K.l) = true := by simpa using p2
  by_cases p3 : G.a < K.a
  · have q3 : decide (G.a < K.a) = true := decide_eq_true p3
    have dab : decide ((a : Int) < (b : Int)) = true := by
      have := HA.out
      unfold Ahead at this
      exact decide_eq_true (by omega)
    have dab2 : decide (a < b) = true := by
      have := HA.out
      unfold Ahead at this
      exact decide_eq_true (by omega)
    clear HA AI p1 p2 p3
    go_wp2_with fail
    go_ret
    exact ⟨rfl, chain_alloc B6.out _⟩
  have q3 : decide (G.a < K.a) = false := decide_eq_false p3
  by_cases p4 : ¬ G.a = K.a
  · have q4 : (G.a == K.a) = false := by simpa using p4
    have dab : decide ((a : Int) < (b : Int)) = false := by
      have := HA.out
      unfold Ahead at this
      exact decide_eq_false (by omega)
    have dab2 : decide (a < b) = false := by
      have := HA.out
      unfold Ahead at this
      exact decide_eq_false (by omega)
    clear HA AI p1 p2 p3 p4
    go_wp2_with fail
    go_ret
    exact ⟨rfl, chain_alloc B6.out _⟩
  have p4 := Decidable.not_not.1 p4
  have q4 : (G.a == K.a) = true := by simpa using p4
  by_cases p5 : G.t < K.t
  · have q5 : decide (G.t < K.t) = true := decide_eq_true p5
    have dab : decide ((a : Int) < (b : Int)) = true := by
      have := HA.out
      unfold Ahead at this
      exact decide_eq_true (by omega)
    have dab2 : decide (a < b) = true := by
      have := HA.out
      unfold Ahead at this
      exact decide_eq_true (by omega)
    clear HA AI p1 p2 p3 p4 p5
    go_wp2_with fail
    go_ret
    exact ⟨rfl, chain_alloc B6.out _⟩
  · have q5 : decide (G.t < K.t) = false := decide_eq_false p5
    have dab : decide ((a : Int) < (b : Int)) = false := by
      have := HA.out
      unfold Ahead at this
      exact decide_eq_false (by omega)
    have dab2 : decide (a < b) = false := by
      have := HA.out
      unfold Ahead at this
      exact decide_eq_false (by omega)
    clear HA AI p1 p2 p3 p4 p5
    go_wp2_with fail
    go_ret
    exact ⟨rfl, chain_alloc B6.out _⟩

end Go.Proofs.Ytnfmpladdfgadaa
