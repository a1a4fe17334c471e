/-
  GatesTells: the stages of any network, their gates and lines, and what any gate is, are the document's.
-/
import Derived.Test.YtnfmpladdfgadaaGHead
import Derived.Test.YtnfmpladdfgadaaGRef
import Derived.Deep.RegionHeld3
namespace Go.Proofs.Ytnfmpladdfgadaa
open Go.RowKit

theorem rgate_is (c h x : Int) (A : Option Addr) (cA n : Nat) (ls : List Ly) (g : Int) (G : Gt) (r : Bool) (hG : gateN ⟨c, h, x, ls⟩ g = G) (hr : hasG ⟨c, h, x, ls⟩ g = r) (w : World) (hx : Rl w A ls) (ln : n = ls.length) (hn : n ≤ 60) :
    Calls Try.prog 45 #[.agg #[.int .i64 c, .int .i64 h, .int .i64 x, .slice A n cA], .int .i64 g] w fun e w' => e = .returned (.tuple #[.agg #[.int .i64 G.l, .int .i64 G.a, .int .i64 G.t, .int .i64 G.x, .int .i64 G.w], .bool r]) ∧ Below w.heap.size w w' := by
  subst hG hr
  exact rgate8 c h x A cA n ls g w hx ln hn
theorem rtotal_is (c h x : Int) (A : Option Addr) (cA n : Nat) (ls : List Ly) (t : Int) (ht : totP (knN ⟨c, h, x, ls⟩) = t) (w : World) (hx : Rl w A ls) (ln : n = ls.length) (hn : n ≤ 60) :
    Calls Try.prog 49 #[.agg #[.int .i64 c, .int .i64 h, .int .i64 x, .slice A n cA]] w fun e w' => e = .returned (.int .i64 t) ∧ Below w.heap.size w w' := by
  subst ht
  exact rtotal8 c h x A cA n ls w hx ln hn
theorem rstages_is (c h x : Int) (A : Option Addr) (cA n : Nat) (ls : List Ly) (st : List Int) (ht : stagesN ⟨c, h, x, ls⟩ = st) (w : World) (hx : Rl w A ls) (ln : n = ls.length) (hn : n ≤ 60) :
    Calls Try.prog 47 #[.agg #[.int .i64 c, .int .i64 h, .int .i64 x, .slice A n cA]] w (RowTo icells st w) := by
  subst ht
  exact rstages8 c h x A cA n ls w hx ln hn

set_option maxHeartbeats 20000000 in
set_option maxRecDepth 100000 in
theorem law_gtells (c h x : Int) (A : Option Addr) (cA n : Nat) (ls : List Ly) (s g la a t : Int) (w : World) (hx : Rl w A ls) (ln : n = ls.length) :
    Calls Try.prog 6 #[.agg #[.int .i64 c, .int .i64 h, .int .i64 x, .slice A n cA], .int .i64 s, .int .i64 g, .int .i64 la, .int .i64 a, .int .i64 t] w fun e w' => e = .returned (.bool true) ∧ Below w.heap.size w w' := by
  have HX := Lib.hid hx; have LX := Lib.hid ln
  clear hx ln
  go_enter Try.func6, Try.ntmps6
  go_wp2_with fail
  refine (head8_any _).mono ?_
  rintro e w1 ⟨rfl, hb⟩
  have B1 := Lib.hid (chain ((Below.refl w.heap.size w).alloc (Nat.le_refl _) _) hb)
  have N1 := Lib.hid ((NB.new w c h x (.slice A n cA)).below hb)
  clear hb
  have lN := N1.out.lt
  obtain ⟨c0, c1, c2, c3⟩ := N1.out.cells
  by_cases hg : 60 < n
  · have d : decide (60 < (n : Int)) = true := by simp; omega
    go_wp2_with fail
    refine (great_any c h x A cA n _ true d).mono ?_
    rintro e w2 ⟨rfl, hb⟩
    have B2 := Lib.hid (chain B1.out hb)
    have N2 := Lib.hid (N1.out.below hb)
    clear hb c0 c1 c2 c3 lN B1 N1
    have lN := N2.out.lt
    obtain ⟨c0, c1, c2, c3⟩ := N2.out.cells
    clear hg d
    go_wp2_with fail
    go_ret
    exact ⟨rfl, B2.out⟩
  have d : decide (60 < (n : Int)) = false := by simp; omega
  have hn : n ≤ 60 := by omega
  have hn1 : n ≤ 1000 := by omega
  have l60 : ls.length ≤ 60 := by rw [← LX.out]; exact hn
  go_wp2_with fail
  refine (great_any c h x A cA n _ false d).mono ?_
  rintro e w2 ⟨rfl, hb⟩
  have B2 := Lib.hid (chain B1.out hb)
  have N2 := Lib.hid (N1.out.below hb)
  clear hb c0 c1 c2 c3 lN B1 N1
  have lN := N2.out.lt
  obtain ⟨c0, c1, c2, c3⟩ := N2.out.cells
  clear hg d
  obtain ⟨ra, rb, hr⟩ : ∃ ra rb, rangeN ⟨c, h, x, ls⟩ s = (ra, rb) := ⟨_, _, rfl⟩
  obtain ⟨la0, lb0, hl⟩ : ∃ p q, lineN ⟨c, h, x, ls⟩ s = (p, q) := ⟨_, _, rfl⟩
  obtain ⟨G, hG⟩ : ∃ G, gateN ⟨c, h, x, ls⟩ g = G := ⟨_, rfl⟩
  obtain ⟨r, hgr⟩ : ∃ r, hasG ⟨c, h, x, ls⟩ g = r := ⟨_, rfl⟩
  obtain ⟨T, hT⟩ : ∃ T, totP (knN ⟨c, h, x, ls⟩) = T := ⟨_, rfl⟩
  obtain ⟨st, hst⟩ : ∃ st, stagesN ⟨c, h, x, ls⟩ = st := ⟨_, rfl⟩
  obtain ⟨ix, hix⟩ : ∃ ix, indexN ⟨c, h, x, ls⟩ la a t = ix := ⟨_, rfl⟩
  have HR := Lib.hid hr; have HL := Lib.hid hl; have HG := Lib.hid hG; have HGR := Lib.hid hgr; have HT := Lib.hid hT; have HST := Lib.hid hst; have HIX := Lib.hid hix
  have sl : st.length ≤ 60 := by
    rw [← hst]; unfold stagesN
    split
    · have := stK_len ls ls.length; show (stK ls ls.length).length ≤ 60; omega
    · simp
  have SL := Lib.hid sl
  have eq1 := gate_eq G.l G.a G.t G.x G.w
  clear hr hl hG hgr hT hst hix sl
  go_wp2_with fail
  refine (grange8 c h x A cA n ls s ra rb HR.out _ (HX.out.below B2.out) LX.out hn).mono ?_
  rintro e w3 ⟨rfl, hb⟩
  have B3 := Lib.hid (chain B2.out hb)
  have N3 := Lib.hid (N2.out.below hb)
  clear hb c0 c1 c2 c3 lN B2 N2
  have lN := N3.out.lt
  obtain ⟨c0, c1, c2, c3⟩ := N3.out.cells
  go_wp2_with fail
  refine (rrange8 c h x A cA n ls s ra rb HR.out _ (HX.out.below B3.out) LX.out hn).mono ?_
  rintro e w4 ⟨rfl, hb⟩
  have B4 := Lib.hid (chain B3.out hb)
  have N4 := Lib.hid (N3.out.below hb)
  clear hb c0 c1 c2 c3 lN B3 N3
  have lN := N4.out.lt
  obtain ⟨c0, c1, c2, c3⟩ := N4.out.cells
  go_wp2_with fail
  refine (gline8 c h x A cA n ls s la0 lb0 HL.out _ (HX.out.below B4.out) LX.out hn).mono ?_
  rintro e w5 ⟨rfl, hb⟩
  have B5 := Lib.hid (chain B4.out hb)
  have N5 := Lib.hid (N4.out.below hb)
  clear hb c0 c1 c2 c3 lN B4 N4
  have lN := N5.out.lt
  obtain ⟨c0, c1, c2, c3⟩ := N5.out.cells
  go_wp2_with fail
  refine (rline8 c h x A cA n ls s la0 lb0 HL.out _ (HX.out.below B5.out) LX.out hn).mono ?_
  rintro e w6 ⟨rfl, hb⟩
  have B6 := Lib.hid (chain B5.out hb)
  have N6 := Lib.hid (N5.out.below hb)
  clear hb c0 c1 c2 c3 lN B5 N5
  have lN := N6.out.lt
  obtain ⟨c0, c1, c2, c3⟩ := N6.out.cells
  go_wp2_with fail
  refine (ggate_is c h x A cA n ls g G r HG.out HGR.out _ (HX.out.below B6.out) LX.out hn).mono ?_
  rintro e w7 ⟨rfl, hb⟩
  have B7 := Lib.hid (chain B6.out hb)
  have N7 := Lib.hid (N6.out.below hb)
  clear hb c0 c1 c2 c3 lN B6 N6
  have lN := N7.out.lt
  obtain ⟨c0, c1, c2, c3⟩ := N7.out.cells
  go_wp2_with fail
  obtain ⟨w8, hV⟩ : ∃ V, V = w7.alloc (.cells #[.int .i64 G.l, .int .i64 G.a, .int .i64 G.t, .int .i64 G.x, .int .i64 G.w] 54) := ⟨_, rfl⟩
  have hb : Below w7.heap.size w7 w8 := by rw [hV]; exact (Below.refl _ w7).alloc (Nat.le_refl _) _
  have Q1 : Hid (GB w8 w7.heap.size G) := by rw [hV]; exact heap_alloc_new w7 _
  rw [← hV]
  clear hV
  have B8 := Lib.hid (chain B7.out hb)
  have N8 := Lib.hid (N7.out.below hb)
  clear hb c0 c1 c2 c3 lN B7 N7
  have lN := N8.out.lt
  obtain ⟨c0, c1, c2, c3⟩ := N8.out.cells
  refine (rgate_is c h x A cA n ls g G r HG.out HGR.out _ (HX.out.below B8.out) LX.out hn).mono ?_
  rintro e w9 ⟨rfl, hb⟩
  have B9 := Lib.hid (chain B8.out hb)
  have N9 := Lib.hid (N8.out.below hb)
  have Q1 := Lib.hid (Q1.out.below hb)
  clear hb c0 c1 c2 c3 lN B8 N8
  have lN := N9.out.lt
  obtain ⟨c0, c1, c2, c3⟩ := N9.out.cells
  go_wp2_with fail
  obtain ⟨w10, hV⟩ : ∃ V, V = w9.alloc (.cells #[.int .i64 G.l, .int .i64 G.a, .int .i64 G.t, .int .i64 G.x, .int .i64 G.w] 54) := ⟨_, rfl⟩
  have hb : Below w9.heap.size w9 w10 := by rw [hV]; exact (Below.refl _ w9).alloc (Nat.le_refl _) _
  have Q2 : Hid (GB w10 w9.heap.size G) := by rw [hV]; exact heap_alloc_new w9 _
  rw [← hV]
  clear hV
  have B10 := Lib.hid (chain B9.out hb)
  have N10 := Lib.hid (N9.out.below hb)
  have Q1 := Lib.hid (Q1.out.below hb)
  clear hb c0 c1 c2 c3 lN B9 N9
  have lN := N10.out.lt
  obtain ⟨c0, c1, c2, c3⟩ := N10.out.cells
  obtain ⟨x0, x1, x2, x3, x4⟩ := Q1.out.cells
  obtain ⟨y0, y1, y2, y3, y4⟩ := Q2.out.cells
  have lQ1 := Q1.out.lt; have lQ2 := Q2.out.lt
  refine wp_region_noPanic ?_
  refine wp_region_held_drew (S := fun w' => w'.cell? ⟨w.heap.size, 0, none⟩ = some (.int .i64 c) ∧ w'.cell? ⟨w.heap.size, 1, none⟩ = some (.int .i64 h) ∧ w'.cell? ⟨w.heap.size, 2, none⟩ = some (.int .i64 x) ∧ w'.cell? ⟨w.heap.size, 3, none⟩ = some (.slice A n cA) ∧ w'.cell? ⟨w7.heap.size, 0, none⟩ = some (.int .i64 G.l) ∧ w'.cell? ⟨w7.heap.size, 1, none⟩ = some (.int .i64 G.a) ∧ w'.cell? ⟨w7.heap.size, 2, none⟩ = some (.int .i64 G.t) ∧ w'.cell? ⟨w7.heap.size, 3, none⟩ = some (.int .i64 G.x) ∧ w'.cell? ⟨w7.heap.size, 4, none⟩ = some (.int .i64 G.w) ∧ w'.cell? ⟨w9.heap.size, 0, none⟩ = some (.int .i64 G.l) ∧ w'.cell? ⟨w9.heap.size, 1, none⟩ = some (.int .i64 G.a) ∧ w'.cell? ⟨w9.heap.size, 2, none⟩ = some (.int .i64 G.t) ∧ w'.cell? ⟨w9.heap.size, 3, none⟩ = some (.int .i64 G.x) ∧ w'.cell? ⟨w9.heap.size, 4, none⟩ = some (.int .i64 G.w)) (by kernel_rfl) ⟨c0, c1, c2, c3, x0, x1, x2, x3, x4, y0, y1, y2, y3, y4⟩ (fun hHeld => ?_)
  have HC0 : Hid (Below w10.heap.size w10 w10.drew) := below_drew w10
  refine wpAnyH_take (i := 0) (v := ?vv1) (by simp only [List.getElem?_toArray, List.getElem?_cons_zero]; rfl) (by kernel_rfl) (by kernel_rfl) (by kernel_rfl) (fun _ _ _ h => h) (Or.inl ⟨by rfl, ?yy1⟩) (by assumption) ?rr1
  case yy1 => (intro w hSw; (try dsimp only at hSw); go_simp; first | done | with_reducible rfl)
  simp only [Act.put, List.setIfInBounds_toArray, List.set_cons_zero, List.set_cons_succ]
  refine wpAnyH_take (i := 1) (v := ?vv2) (by simp only [List.getElem?_toArray, List.getElem?_cons_zero, List.getElem?_cons_succ]; rfl) (by kernel_rfl) (by kernel_rfl) (by kernel_rfl) (fun _ _ _ h => h) (Or.inl ⟨by rfl, ?yy2⟩) (by assumption) ?rr2
  case yy2 => (intro w hSw; (try dsimp only at hSw); go_simp; first | done | with_reducible rfl)
  simp only [Act.put, List.setIfInBounds_toArray, List.set_cons_zero, List.set_cons_succ]
  refine wpAnyH_take (i := 2) (v := ?vv3) (by simp only [List.getElem?_toArray, List.getElem?_cons_zero, List.getElem?_cons_succ]; rfl) (by kernel_rfl) (by kernel_rfl) (by kernel_rfl) (fun _ _ _ h => h) (Or.inl ⟨by rfl, ?yy3⟩) (by assumption) ?rr3
  case yy3 => (intro w hSw; (try dsimp only at hSw); go_simp; first | done | with_reducible rfl)
  simp only [Act.put, List.setIfInBounds_toArray, List.set_cons_zero, List.set_cons_succ]
  refine wpAnyH_take (i := 4) (v := ?vv4) (by simp only [List.getElem?_toArray, List.getElem?_cons_zero, List.getElem?_cons_succ]; rfl) (by kernel_rfl) (by kernel_rfl) (by kernel_rfl) (fun _ _ _ h => h) (Or.inl ⟨by rfl, ?yy4⟩) (by assumption) ?rr4
  case yy4 => (intro w hSw; (try dsimp only at hSw); go_simp; first | done | with_reducible rfl)
  simp only [Act.put, List.setIfInBounds_toArray, List.set_cons_zero, List.set_cons_succ]
  refine wpAnyH_ready (rs := [3]) (by kernel_rfl) (by simp) ?_
  refine AllReadyH.cons (by simp only [List.getElem?_toArray, List.getElem?_cons_zero, List.getElem?_cons_succ]; rfl) (fun K hK => ?_) AllReadyH.nil
  go_simp
  go_at_call 46
  (with_reducible refine (gstages_is c h x A cA n ls st HST.out _ (HX.out.below (chain B10.out HC0.out)) LX.out hn).mono ?_)
  rintro e v1 ⟨A1, k1, n1, rfl, hn2, hR2, hb, hd1, hd2⟩
  have HC1 := Lib.hid (HC0.out.trans (hb.mono HC0.out.size))
  have P1 := Lib.hid hR2; have M1 := Lib.hid hn2
  clear hR2 hn2 hd1 hd2
  clear hb hHeld
  have g0 := (HC1.out.cell (p := ⟨w.heap.size, 0, none⟩) lN).trans c0
  have g1 := (HC1.out.cell (p := ⟨w.heap.size, 1, none⟩) lN).trans c1
  have g2 := (HC1.out.cell (p := ⟨w.heap.size, 2, none⟩) lN).trans c2
  have g3 := (HC1.out.cell (p := ⟨w.heap.size, 3, none⟩) lN).trans c3
  have g4 := (HC1.out.cell (p := ⟨w7.heap.size, 0, none⟩) lQ1).trans x0
  have g5 := (HC1.out.cell (p := ⟨w7.heap.size, 1, none⟩) lQ1).trans x1
  have g6 := (HC1.out.cell (p := ⟨w7.heap.size, 2, none⟩) lQ1).trans x2
  have g7 := (HC1.out.cell (p := ⟨w7.heap.size, 3, none⟩) lQ1).trans x3
  have g8 := (HC1.out.cell (p := ⟨w7.heap.size, 4, none⟩) lQ1).trans x4
  have g9 := (HC1.out.cell (p := ⟨w9.heap.size, 0, none⟩) lQ2).trans y0
  have g10 := (HC1.out.cell (p := ⟨w9.heap.size, 1, none⟩) lQ2).trans y1
  have g11 := (HC1.out.cell (p := ⟨w9.heap.size, 2, none⟩) lQ2).trans y2
  have g12 := (HC1.out.cell (p := ⟨w9.heap.size, 3, none⟩) lQ2).trans y3
  have g13 := (HC1.out.cell (p := ⟨w9.heap.size, 4, none⟩) lQ2).trans y4
  go_wp2_with fail
  refine hK.out _ _ ⟨g0, g1, g2, g3, g4, g5, g6, g7, g8, g9, g10, g11, g12, g13⟩ (fun hHeld => ?_)
  clear hK K g0 g1 g2 g3 g4 g5 g6 g7 g8 g9 g10 g11 g12 g13 HC0
  try simp only [Act.put, List.setIfInBounds_toArray, List.set_cons_zero, List.set_cons_succ]
  refine wpAnyH_ready (rs := [5]) (by kernel_rfl) (by simp) ?_
  refine AllReadyH.cons (by simp only [List.getElem?_toArray, List.getElem?_cons_zero, List.getElem?_cons_succ]; rfl) (fun K hK => ?_) AllReadyH.nil
  go_simp
  go_at_call 47
  (with_reducible refine (rstages_is c h x A cA n ls st HST.out _ (HX.out.below (chain B10.out HC1.out)) LX.out hn).mono ?_)
  rintro e v2 ⟨A2, k2, n2, rfl, hn2, hR2, hb, hd1, hd2⟩
  have HC2 := Lib.hid (HC1.out.trans (hb.mono HC1.out.size))
  obtain rfl : n2 = n1 := hn2.trans M1.out.symm
  have P1 := Lib.hid (P1.out.below hb); have P2 := Lib.hid hR2
  clear hR2 hn2 hd1 hd2
  clear hb hHeld
  have g0 := (HC2.out.cell (p := ⟨w.heap.size, 0, none⟩) lN).trans c0
  have g1 := (HC2.out.cell (p := ⟨w.heap.size, 1, none⟩) lN).trans c1
  have g2 := (HC2.out.cell (p := ⟨w.heap.size, 2, none⟩) lN).trans c2
  have g3 := (HC2.out.cell (p := ⟨w.heap.size, 3, none⟩) lN).trans c3
  have g4 := (HC2.out.cell (p := ⟨w7.heap.size, 0, none⟩) lQ1).trans x0
  have g5 := (HC2.out.cell (p := ⟨w7.heap.size, 1, none⟩) lQ1).trans x1
  have g6 := (HC2.out.cell (p := ⟨w7.heap.size, 2, none⟩) lQ1).trans x2
  have g7 := (HC2.out.cell (p := ⟨w7.heap.size, 3, none⟩) lQ1).trans x3
  have g8 := (HC2.out.cell (p := ⟨w7.heap.size, 4, none⟩) lQ1).trans x4
  have g9 := (HC2.out.cell (p := ⟨w9.heap.size, 0, none⟩) lQ2).trans y0
  have g10 := (HC2.out.cell (p := ⟨w9.heap.size, 1, none⟩) lQ2).trans y1
  have g11 := (HC2.out.cell (p := ⟨w9.heap.size, 2, none⟩) lQ2).trans y2
  have g12 := (HC2.out.cell (p := ⟨w9.heap.size, 3, none⟩) lQ2).trans y3
  have g13 := (HC2.out.cell (p := ⟨w9.heap.size, 4, none⟩) lQ2).trans y4
  go_wp2_with fail
  refine hK.out _ _ ⟨g0, g1, g2, g3, g4, g5, g6, g7, g8, g9, g10, g11, g12, g13⟩ (fun hHeld => ?_)
  clear hK K g0 g1 g2 g3 g4 g5 g6 g7 g8 g9 g10 g11 g12 g13 HC1
  try simp only [Act.put, List.setIfInBounds_toArray, List.set_cons_zero, List.set_cons_succ]
  refine wpAnyH_ready (rs := [6]) (by kernel_rfl) (by simp) ?_
  refine AllReadyH.cons (by simp only [List.getElem?_toArray, List.getElem?_cons_zero, List.getElem?_cons_succ]; rfl) (fun K hK => ?_) AllReadyH.nil
  go_simp
  go_at_call 29
  (with_reducible refine (same_ints st A1 A2 k1 k2 n2 _ P1.out P2.out M1.out (by have := M1.out; have := SL.out; omega)).mono ?_)
  rintro e v3 ⟨rfl, hb⟩
  have HC3 := Lib.hid (HC2.out.trans (hb.mono HC2.out.size))
  clear hb hHeld
  have g0 := (HC3.out.cell (p := ⟨w.heap.size, 0, none⟩) lN).trans c0
  have g1 := (HC3.out.cell (p := ⟨w.heap.size, 1, none⟩) lN).trans c1
  have g2 := (HC3.out.cell (p := ⟨w.heap.size, 2, none⟩) lN).trans c2
  have g3 := (HC3.out.cell (p := ⟨w.heap.size, 3, none⟩) lN).trans c3
  have g4 := (HC3.out.cell (p := ⟨w7.heap.size, 0, none⟩) lQ1).trans x0
  have g5 := (HC3.out.cell (p := ⟨w7.heap.size, 1, none⟩) lQ1).trans x1
  have g6 := (HC3.out.cell (p := ⟨w7.heap.size, 2, none⟩) lQ1).trans x2
  have g7 := (HC3.out.cell (p := ⟨w7.heap.size, 3, none⟩) lQ1).trans x3
  have g8 := (HC3.out.cell (p := ⟨w7.heap.size, 4, none⟩) lQ1).trans x4
  have g9 := (HC3.out.cell (p := ⟨w9.heap.size, 0, none⟩) lQ2).trans y0
  have g10 := (HC3.out.cell (p := ⟨w9.heap.size, 1, none⟩) lQ2).trans y1
  have g11 := (HC3.out.cell (p := ⟨w9.heap.size, 2, none⟩) lQ2).trans y2
  have g12 := (HC3.out.cell (p := ⟨w9.heap.size, 3, none⟩) lQ2).trans y3
  have g13 := (HC3.out.cell (p := ⟨w9.heap.size, 4, none⟩) lQ2).trans y4
  go_wp2_with fail
  refine hK.out _ _ ⟨g0, g1, g2, g3, g4, g5, g6, g7, g8, g9, g10, g11, g12, g13⟩ (fun hHeld => ?_)
  clear hK K g0 g1 g2 g3 g4 g5 g6 g7 g8 g9 g10 g11 g12 g13 HC2
  try simp only [Act.put, List.setIfInBounds_toArray, List.set_cons_zero, List.set_cons_succ]
  refine wpAnyH_take (i := 7) (v := ?vv5) (by simp only [List.getElem?_toArray, List.getElem?_cons_zero, List.getElem?_cons_succ]; rfl) (by kernel_rfl) (by kernel_rfl) (by kernel_rfl) (fun _ _ _ h => h) (Or.inl ⟨by rfl, ?yy5⟩) (by assumption) ?rr5
  case yy5 => (intro w hSw; (try dsimp only at hSw); go_simp; first | done | with_reducible rfl)
  simp only [Act.put, List.setIfInBounds_toArray, List.set_cons_zero, List.set_cons_succ]
  refine wpAnyH_take (i := 8) (v := ?vv6) (by simp only [List.getElem?_toArray, List.getElem?_cons_zero, List.getElem?_cons_succ]; rfl) (by kernel_rfl) (by kernel_rfl) (by kernel_rfl) (fun _ _ _ h => h) (Or.inl ⟨by rfl, ?yy6⟩) (by assumption) ?rr6
  case yy6 => (intro w hSw; (try dsimp only at hSw); go_simp; first | done | with_reducible rfl)
  simp only [Act.put, List.setIfInBounds_toArray, List.set_cons_zero, List.set_cons_succ]
  refine wpAnyH_take (i := 9) (v := ?vv7) (by simp only [List.getElem?_toArray, List.getElem?_cons_zero, List.getElem?_cons_succ]; rfl) (by kernel_rfl) (by kernel_rfl) (by kernel_rfl) (fun _ _ _ h => h) (Or.inl ⟨by rfl, ?yy7⟩) (by assumption) ?rr7
  case yy7 => (intro w hSw; (try dsimp only at hSw); go_simp; first | done | with_reducible rfl)
  simp only [Act.put, List.setIfInBounds_toArray, List.set_cons_zero, List.set_cons_succ]
  refine wpAnyH_take (i := 11) (v := ?vv8) (by simp only [List.getElem?_toArray, List.getElem?_cons_zero, List.getElem?_cons_succ]; rfl) (by kernel_rfl) (by kernel_rfl) (by kernel_rfl) (fun _ _ _ h => h) (Or.inl ⟨by rfl, ?yy8⟩) (by assumption) ?rr8
  case yy8 => (intro w hSw; (try dsimp only at hSw); go_simp; first | done | with_reducible rfl)
  simp only [Act.put, List.setIfInBounds_toArray, List.set_cons_zero, List.set_cons_succ]
  refine wpAnyH_ready (rs := [10]) (by kernel_rfl) (by simp) ?_
  refine AllReadyH.cons (by simp only [List.getElem?_toArray, List.getElem?_cons_zero, List.getElem?_cons_succ]; rfl) (fun K hK => ?_) AllReadyH.nil
  go_simp
  go_at_call 48
  (with_reducible refine (gtotal_is c h x A cA n ls T HT.out _ (HX.out.below (chain B10.out HC3.out)) LX.out hn).mono ?_)
  rintro e v4 ⟨rfl, hb⟩
  have HC4 := Lib.hid (HC3.out.trans (hb.mono HC3.out.size))
  clear hb hHeld
  have g0 := (HC4.out.cell (p := ⟨w.heap.size, 0, none⟩) lN).trans c0
  have g1 := (HC4.out.cell (p := ⟨w.heap.size, 1, none⟩) lN).trans c1
  have g2 := (HC4.out.cell (p := ⟨w.heap.size, 2, none⟩) lN).trans c2
  have g3 := (HC4.out.cell (p := ⟨w.heap.size, 3, none⟩) lN).trans c3
  have g4 := (HC4.out.cell (p := ⟨w7.heap.size, 0, none⟩) lQ1).trans x0
  have g5 := (HC4.out.cell (p := ⟨w7.heap.size, 1, none⟩) lQ1).trans x1
  have g6 := (HC4.out.cell (p := ⟨w7.heap.size, 2, none⟩) lQ1).trans x2
  have g7 := (HC4.out.cell (p := ⟨w7.heap.size, 3, none⟩) lQ1).trans x3
  have g8 := (HC4.out.cell (p := ⟨w7.heap.size, 4, none⟩) lQ1).trans x4
  have g9 := (HC4.out.cell (p := ⟨w9.heap.size, 0, none⟩) lQ2).trans y0
  have g10 := (HC4.out.cell (p := ⟨w9.heap.size, 1, none⟩) lQ2).trans y1
  have g11 := (HC4.out.cell (p := ⟨w9.heap.size, 2, none⟩) lQ2).trans y2
  have g12 := (HC4.out.cell (p := ⟨w9.heap.size, 3, none⟩) lQ2).trans y3
  have g13 := (HC4.out.cell (p := ⟨w9.heap.size, 4, none⟩) lQ2).trans y4
  go_wp2_with fail
  refine hK.out _ _ ⟨g0, g1, g2, g3, g4, g5, g6, g7, g8, g9, g10, g11, g12, g13⟩ (fun hHeld => ?_)
  clear hK K g0 g1 g2 g3 g4 g5 g6 g7 g8 g9 g10 g11 g12 g13 HC3
  try simp only [Act.put, List.setIfInBounds_toArray, List.set_cons_zero, List.set_cons_succ]
  refine wpAnyH_ready (rs := [12]) (by kernel_rfl) (by simp) ?_
  refine AllReadyH.cons (by simp only [List.getElem?_toArray, List.getElem?_cons_zero, List.getElem?_cons_succ]; rfl) (fun K hK => ?_) AllReadyH.nil
  go_simp
  go_at_call 49
  (with_reducible refine (rtotal_is c h x A cA n ls T HT.out _ (HX.out.below (chain B10.out HC4.out)) LX.out hn).mono ?_)
  rintro e v5 ⟨rfl, hb⟩
  have HC5 := Lib.hid (HC4.out.trans (hb.mono HC4.out.size))
  clear hb hHeld
  have g0 := (HC5.out.cell (p := ⟨w.heap.size, 0, none⟩) lN).trans c0
  have g1 := (HC5.out.cell (p := ⟨w.heap.size, 1, none⟩) lN).trans c1
  have g2 := (HC5.out.cell (p := ⟨w.heap.size, 2, none⟩) lN).trans c2
  have g3 := (HC5.out.cell (p := ⟨w.heap.size, 3, none⟩) lN).trans c3
  have g4 := (HC5.out.cell (p := ⟨w7.heap.size, 0, none⟩) lQ1).trans x0
  have g5 := (HC5.out.cell (p := ⟨w7.heap.size, 1, none⟩) lQ1).trans x1
  have g6 := (HC5.out.cell (p := ⟨w7.heap.size, 2, none⟩) lQ1).trans x2
  have g7 := (HC5.out.cell (p := ⟨w7.heap.size, 3, none⟩) lQ1).trans x3
  have g8 := (HC5.out.cell (p := ⟨w7.heap.size, 4, none⟩) lQ1).trans x4
  have g9 := (HC5.out.cell (p := ⟨w9.heap.size, 0, none⟩) lQ2).trans y0
  have g10 := (HC5.out.cell (p := ⟨w9.heap.size, 1, none⟩) lQ2).trans y1
  have g11 := (HC5.out.cell (p := ⟨w9.heap.size, 2, none⟩) lQ2).trans y2
  have g12 := (HC5.out.cell (p := ⟨w9.heap.size, 3, none⟩) lQ2).trans y3
  have g13 := (HC5.out.cell (p := ⟨w9.heap.size, 4, none⟩) lQ2).trans y4
  go_wp2_with fail
  refine hK.out _ _ ⟨g0, g1, g2, g3, g4, g5, g6, g7, g8, g9, g10, g11, g12, g13⟩ (fun hHeld => ?_)
  clear hK K g0 g1 g2 g3 g4 g5 g6 g7 g8 g9 g10 g11 g12 g13 HC4
  try simp only [Act.put, List.setIfInBounds_toArray, List.set_cons_zero, List.set_cons_succ]
  refine wpAnyH_take (i := 13) (v := ?vv9) (by simp only [List.getElem?_toArray, List.getElem?_cons_zero, List.getElem?_cons_succ]; rfl) (by kernel_rfl) (by kernel_rfl) (by kernel_rfl) (fun _ _ _ h => h) (Or.inl ⟨by rfl, ?yy9⟩) (by assumption) ?rr9
  case yy9 => (intro w hSw; (try dsimp only at hSw); go_simp; first | done | with_reducible rfl)
  simp only [Act.put, List.setIfInBounds_toArray, List.set_cons_zero, List.set_cons_succ]
  refine wpAnyH_take (i := 14) (v := ?vv10) (by simp only [List.getElem?_toArray, List.getElem?_cons_zero, List.getElem?_cons_succ]; rfl) (by kernel_rfl) (by kernel_rfl) (by kernel_rfl) (fun _ _ _ h => h) (Or.inl ⟨by rfl, ?yy10⟩) (by assumption) ?rr10
  case yy10 => (intro w hSw; (try dsimp only at hSw); go_simp; first | done | with_reducible rfl)
  simp only [Act.put, List.setIfInBounds_toArray, List.set_cons_zero, List.set_cons_succ]
  refine wpAnyH_take (i := 15) (v := ?vv11) (by simp only [List.getElem?_toArray, List.getElem?_cons_zero, List.getElem?_cons_succ]; rfl) (by kernel_rfl) (by kernel_rfl) (by kernel_rfl) (fun _ _ _ h => h) (Or.inl ⟨by rfl, ?yy11⟩) (by assumption) ?rr11
  case yy11 => (intro w hSw; (try dsimp only at hSw); go_simp; first | done | with_reducible rfl)
  simp only [Act.put, List.setIfInBounds_toArray, List.set_cons_zero, List.set_cons_succ]
  refine wpAnyH_take (i := 16) (v := ?vv12) (by simp only [List.getElem?_toArray, List.getElem?_cons_zero, List.getElem?_cons_succ]; rfl) (by kernel_rfl) (by kernel_rfl) (by kernel_rfl) (fun _ _ _ h => h) (Or.inl ⟨by rfl, ?yy12⟩) (by assumption) ?rr12
  case yy12 => (intro w hSw; (try dsimp only at hSw); go_simp; first | done | with_reducible rfl)
  simp only [Act.put, List.setIfInBounds_toArray, List.set_cons_zero, List.set_cons_succ]
  refine wpAnyH_take (i := 17) (v := ?vv13) (by simp only [List.getElem?_toArray, List.getElem?_cons_zero, List.getElem?_cons_succ]; rfl) (by kernel_rfl) (by kernel_rfl) (by kernel_rfl) (fun _ _ _ h => h) (Or.inl ⟨by rfl, ?yy13⟩) (by assumption) ?rr13
  case yy13 => (intro w hSw; (try dsimp only at hSw); go_simp; first | done | with_reducible rfl)
  simp only [Act.put, List.setIfInBounds_toArray, List.set_cons_zero, List.set_cons_succ]
  refine wpAnyH_take (i := 18) (v := ?vv14) (by simp only [List.getElem?_toArray, List.getElem?_cons_zero, List.getElem?_cons_succ]; rfl) (by kernel_rfl) (by kernel_rfl) (by kernel_rfl) (fun _ _ _ h => h) (Or.inl ⟨by rfl, ?yy14⟩) (by assumption) ?rr14
  case yy14 => (intro w hSw; (try dsimp only at hSw); go_simp; first | done | with_reducible rfl)
  simp only [Act.put, List.setIfInBounds_toArray, List.set_cons_zero, List.set_cons_succ]
  refine wpAnyH_take (i := 19) (v := ?vv15) (by simp only [List.getElem?_toArray, List.getElem?_cons_zero, List.getElem?_cons_succ]; rfl) (by kernel_rfl) (by kernel_rfl) (by kernel_rfl) (fun _ _ _ h => h) (Or.inl ⟨by rfl, ?yy15⟩) (by assumption) ?rr15
  case yy15 => (intro w hSw; (try dsimp only at hSw); go_simp; first | done | with_reducible rfl)
  simp only [Act.put, List.setIfInBounds_toArray, List.set_cons_zero, List.set_cons_succ]
  refine wpAnyH_take (i := 20) (v := ?vv16) (by simp only [List.getElem?_toArray, List.getElem?_cons_zero, List.getElem?_cons_succ]; rfl) (by kernel_rfl) (by kernel_rfl) (by kernel_rfl) (fun _ _ _ h => h) (Or.inl ⟨by rfl, ?yy16⟩) (by assumption) ?rr16
  case yy16 => (intro w hSw; (try dsimp only at hSw); go_simp; first | done | with_reducible rfl)
  simp only [Act.put, List.setIfInBounds_toArray, List.set_cons_zero, List.set_cons_succ]
  refine wpAnyH_take (i := 21) (v := ?vv17) (by simp only [List.getElem?_toArray, List.getElem?_cons_zero, List.getElem?_cons_succ]; rfl) (by kernel_rfl) (by kernel_rfl) (by kernel_rfl) (fun _ _ _ h => h) (Or.inl ⟨by rfl, ?yy17⟩) (by assumption) ?rr17
  case yy17 => (intro w hSw; (try dsimp only at hSw); go_simp; first | done | with_reducible rfl)
  simp only [Act.put, List.setIfInBounds_toArray, List.set_cons_zero, List.set_cons_succ]
  refine wpAnyH_take (i := 22) (v := ?vv18) (by simp only [List.getElem?_toArray, List.getElem?_cons_zero, List.getElem?_cons_succ]; rfl) (by kernel_rfl) (by kernel_rfl) (by kernel_rfl) (fun _ _ _ h => h) (Or.inl ⟨by rfl, ?yy18⟩) (by assumption) ?rr18
  case yy18 => (intro w hSw; (try dsimp only at hSw); go_simp; first | done | with_reducible rfl)
  simp only [Act.put, List.setIfInBounds_toArray, List.set_cons_zero, List.set_cons_succ]
  refine wpAnyH_take (i := 23) (v := ?vv19) (by simp only [List.getElem?_toArray, List.getElem?_cons_zero, List.getElem?_cons_succ]; rfl) (by kernel_rfl) (by kernel_rfl) (by kernel_rfl) (fun _ _ _ h => h) (Or.inl ⟨by rfl, ?yy19⟩) (by assumption) ?rr19
  case yy19 => (intro w hSw; (try dsimp only at hSw); go_simp; first | done | with_reducible rfl)
  simp only [Act.put, List.setIfInBounds_toArray, List.set_cons_zero, List.set_cons_succ]
  refine wpAnyH_take (i := 24) (v := ?vv20) (by simp only [List.getElem?_toArray, List.getElem?_cons_zero, List.getElem?_cons_succ]; rfl) (by kernel_rfl) (by kernel_rfl) (by kernel_rfl) (fun _ _ _ h => h) (Or.inl ⟨by rfl, ?yy20⟩) (by assumption) ?rr20
  case yy20 => (intro w hSw; (try dsimp only at hSw); go_simp; first | done | with_reducible rfl)
  simp only [Act.put, List.setIfInBounds_toArray, List.set_cons_zero, List.set_cons_succ]
  refine wpAnyH_take (i := 25) (v := ?vv21) (by simp only [List.getElem?_toArray, List.getElem?_cons_zero, List.getElem?_cons_succ]; rfl) (by kernel_rfl) (by kernel_rfl) (by kernel_rfl) (fun _ _ _ h => h) (Or.inl ⟨by rfl, ?yy21⟩) (by assumption) ?rr21
  case yy21 => (intro w hSw; (try dsimp only at hSw); go_simp; first | done | with_reducible rfl)
  simp only [Act.put, List.setIfInBounds_toArray, List.set_cons_zero, List.set_cons_succ]
  refine wpAnyH_take (i := 26) (v := ?vv22) (by simp only [List.getElem?_toArray, List.getElem?_cons_zero, List.getElem?_cons_succ]; rfl) (by kernel_rfl) (by kernel_rfl) (by kernel_rfl) (fun _ _ _ h => h) (Or.inl ⟨by rfl, ?yy22⟩) (by assumption) ?rr22
  case yy22 => (intro w hSw; (try dsimp only at hSw); go_simp; first | done | with_reducible rfl)
  simp only [Act.put, List.setIfInBounds_toArray, List.set_cons_zero, List.set_cons_succ]
  refine wpAnyH_take (i := 27) (v := ?vv23) (by simp only [List.getElem?_toArray, List.getElem?_cons_zero, List.getElem?_cons_succ]; rfl) (by kernel_rfl) (by kernel_rfl) (by kernel_rfl) (fun _ _ _ h => h) (Or.inl ⟨by rfl, ?yy23⟩) (by assumption) ?rr23
  case yy23 => (intro w hSw; (try dsimp only at hSw); go_simp; first | done | with_reducible rfl)
  simp only [Act.put, List.setIfInBounds_toArray, List.set_cons_zero, List.set_cons_succ]
  refine wpAnyH_take (i := 28) (v := ?vv24) (by simp only [List.getElem?_toArray, List.getElem?_cons_zero, List.getElem?_cons_succ]; rfl) (by kernel_rfl) (by kernel_rfl) (by kernel_rfl) (fun _ _ _ h => h) (Or.inl ⟨by rfl, ?yy24⟩) (by assumption) ?rr24
  case yy24 => (intro w hSw; (try dsimp only at hSw); go_simp; first | done | with_reducible rfl)
  simp only [Act.put, List.setIfInBounds_toArray, List.set_cons_zero, List.set_cons_succ]
  refine wpAnyH_take (i := 29) (v := ?vv25) (by simp only [List.getElem?_toArray, List.getElem?_cons_zero, List.getElem?_cons_succ]; rfl) (by kernel_rfl) (by kernel_rfl) (by kernel_rfl) (fun _ _ _ h => h) (Or.inl ⟨by rfl, ?yy25⟩) (by assumption) ?rr25
  case yy25 => (intro w hSw; (try dsimp only at hSw); go_simp; first | done | with_reducible rfl)
  simp only [Act.put, List.setIfInBounds_toArray, List.set_cons_zero, List.set_cons_succ]
  refine wpAnyH_take (i := 30) (v := ?vv26) (by simp only [List.getElem?_toArray, List.getElem?_cons_zero, List.getElem?_cons_succ]; rfl) (by kernel_rfl) (by kernel_rfl) (by kernel_rfl) (fun _ _ _ h => h) (Or.inl ⟨by rfl, ?yy26⟩) (by assumption) ?rr26
  case yy26 => (intro w hSw; (try dsimp only at hSw); go_simp; first | done | with_reducible rfl)
  simp only [Act.put, List.setIfInBounds_toArray, List.set_cons_zero, List.set_cons_succ]
  refine wpAnyH_take (i := 31) (v := ?vv27) (by simp only [List.getElem?_toArray, List.getElem?_cons_zero, List.getElem?_cons_succ]; rfl) (by kernel_rfl) (by kernel_rfl) (by kernel_rfl) (fun _ _ _ h => h) (Or.inl ⟨by rfl, ?yy27⟩) (by assumption) ?rr27
  case yy27 => (intro w hSw; (try dsimp only at hSw); go_simp; first | done | with_reducible rfl)
  simp only [Act.put, List.setIfInBounds_toArray, List.set_cons_zero, List.set_cons_succ]
  refine wpAnyH_take (i := 32) (v := ?vv28) (by simp only [List.getElem?_toArray, List.getElem?_cons_zero, List.getElem?_cons_succ]; rfl) (by kernel_rfl) (by kernel_rfl) (by kernel_rfl) (fun _ _ _ h => h) (Or.inl ⟨by rfl, ?yy28⟩) (by assumption) ?rr28
  case yy28 => (intro w hSw; (try dsimp only at hSw); go_simp; first | done | with_reducible rfl)
  simp only [Act.put, List.setIfInBounds_toArray, List.set_cons_zero, List.set_cons_succ]
  refine wpAnyH_take (i := 33) (v := ?vv29) (by simp only [List.getElem?_toArray, List.getElem?_cons_zero, List.getElem?_cons_succ]; rfl) (by kernel_rfl) (by kernel_rfl) (by kernel_rfl) (fun _ _ _ h => h) (Or.inl ⟨by rfl, ?yy29⟩) (by assumption) ?rr29
  case yy29 => (intro w hSw; (try dsimp only at hSw); go_simp; first | done | with_reducible rfl)
  simp only [Act.put, List.setIfInBounds_toArray, List.set_cons_zero, List.set_cons_succ]
  refine wpAnyH_take (i := 34) (v := ?vv30) (by simp only [List.getElem?_toArray, List.getElem?_cons_zero, List.getElem?_cons_succ]; rfl) (by kernel_rfl) (by kernel_rfl) (by kernel_rfl) (fun _ _ _ h => h) (Or.inl ⟨by rfl, ?yy30⟩) (by assumption) ?rr30
  case yy30 => (intro w hSw; (try dsimp only at hSw); go_simp; first | done | with_reducible rfl)
  simp only [Act.put, List.setIfInBounds_toArray, List.set_cons_zero, List.set_cons_succ]
  refine wpAnyH_take (i := 35) (v := ?vv31) (by simp only [List.getElem?_toArray, List.getElem?_cons_zero, List.getElem?_cons_succ]; rfl) (by kernel_rfl) (by kernel_rfl) (by kernel_rfl) (fun _ _ _ h => h) (Or.inl ⟨by rfl, ?yy31⟩) (by assumption) ?rr31
  case yy31 => (intro w hSw; (try dsimp only at hSw); go_simp; first | done | with_reducible rfl)
  simp only [Act.put, List.setIfInBounds_toArray, List.set_cons_zero, List.set_cons_succ]
  refine wpAnyH_take (i := 36) (v := ?vv32) (by simp only [List.getElem?_toArray, List.getElem?_cons_zero, List.getElem?_cons_succ]; rfl) (by kernel_rfl) (by kernel_rfl) (by kernel_rfl) (fun _ _ _ h => h) (Or.inl ⟨by rfl, ?yy32⟩) (by assumption) ?rr32
  case yy32 => (intro w hSw; (try dsimp only at hSw); go_simp; first | done | with_reducible rfl)
  simp only [Act.put, List.setIfInBounds_toArray, List.set_cons_zero, List.set_cons_succ]
  refine wpAnyH_take (i := 37) (v := ?vv33) (by simp only [List.getElem?_toArray, List.getElem?_cons_zero, List.getElem?_cons_succ]; rfl) (by kernel_rfl) (by kernel_rfl) (by kernel_rfl) (fun _ _ _ h => h) (Or.inl ⟨by rfl, ?yy33⟩) (by assumption) ?rr33
  case yy33 => (intro w hSw; (try dsimp only at hSw); go_simp; first | done | with_reducible rfl)
  simp only [Act.put, List.setIfInBounds_toArray, List.set_cons_zero, List.set_cons_succ]
  refine wpAnyH_take (i := 38) (v := ?vv34) (by simp only [List.getElem?_toArray, List.getElem?_cons_zero, List.getElem?_cons_succ]; rfl) (by kernel_rfl) (by kernel_rfl) (by kernel_rfl) (fun _ _ _ h => h) (Or.inl ⟨by rfl, ?yy34⟩) (by assumption) ?rr34
  case yy34 => (intro w hSw; (try dsimp only at hSw); go_simp; first | done | with_reducible rfl)
  simp only [Act.put, List.setIfInBounds_toArray, List.set_cons_zero, List.set_cons_succ]
  refine wpAnyH_take (i := 39) (v := ?vv35) (by simp only [List.getElem?_toArray, List.getElem?_cons_zero, List.getElem?_cons_succ]; rfl) (by kernel_rfl) (by kernel_rfl) (by kernel_rfl) (fun _ _ _ h => h) (Or.inl ⟨by rfl, ?yy35⟩) (by assumption) ?rr35
  case yy35 => (intro w hSw; (try dsimp only at hSw); go_simp; first | done | with_reducible rfl)
  simp only [Act.put, List.setIfInBounds_toArray, List.set_cons_zero, List.set_cons_succ]
  refine wpAnyH_take (i := 40) (v := ?vv36) (by simp only [List.getElem?_toArray, List.getElem?_cons_zero, List.getElem?_cons_succ]; rfl) (by kernel_rfl) (by kernel_rfl) (by kernel_rfl) (fun _ _ _ h => h) (Or.inl ⟨by rfl, ?yy36⟩) (by assumption) ?rr36
  case yy36 => (intro w hSw; (try dsimp only at hSw); go_simp; first | done | with_reducible rfl)
  simp only [Act.put, List.setIfInBounds_toArray, List.set_cons_zero, List.set_cons_succ]
  refine wpAnyH_take (i := 41) (v := ?vv37) (by simp only [List.getElem?_toArray, List.getElem?_cons_zero, List.getElem?_cons_succ]; rfl) (by kernel_rfl) (by kernel_rfl) (by kernel_rfl) (fun _ _ _ h => h) (Or.inl ⟨by rfl, ?yy37⟩) (by assumption) ?rr37
  case yy37 => (intro w hSw; (try dsimp only at hSw); go_simp; first | done | with_reducible rfl)
  simp only [Act.put, List.setIfInBounds_toArray, List.set_cons_zero, List.set_cons_succ]
  refine wpAnyH_take (i := 42) (v := ?vv38) (by simp only [List.getElem?_toArray, List.getElem?_cons_zero, List.getElem?_cons_succ]; rfl) (by kernel_rfl) (by kernel_rfl) (by kernel_rfl) (fun _ _ _ h => h) (Or.inl ⟨by rfl, ?yy38⟩) (by assumption) ?rr38
  case yy38 => (intro w hSw; (try dsimp only at hSw); go_simp; first | done | with_reducible rfl)
  simp only [Act.put, List.setIfInBounds_toArray, List.set_cons_zero, List.set_cons_succ]
  refine wpAnyH_take (i := 43) (v := ?vv39) (by simp only [List.getElem?_toArray, List.getElem?_cons_zero, List.getElem?_cons_succ]; rfl) (by kernel_rfl) (by kernel_rfl) (by kernel_rfl) (fun _ _ _ h => h) (Or.inl ⟨by rfl, ?yy39⟩) (by assumption) ?rr39
  case yy39 => (intro w hSw; (try dsimp only at hSw); go_simp; first | done | with_reducible rfl)
  simp only [Act.put, List.setIfInBounds_toArray, List.set_cons_zero, List.set_cons_succ]
  refine wpAnyH_take (i := 44) (v := ?vv40) (by simp only [List.getElem?_toArray, List.getElem?_cons_zero, List.getElem?_cons_succ]; rfl) (by kernel_rfl) (by kernel_rfl) (by kernel_rfl) (fun _ _ _ h => h) (Or.inl ⟨by rfl, ?yy40⟩) (by assumption) ?rr40
  case yy40 => (intro w hSw; (try dsimp only at hSw); go_simp; first | done | with_reducible rfl)
  simp only [Act.put, List.setIfInBounds_toArray, List.set_cons_zero, List.set_cons_succ]
  refine wpAnyH_take (i := 45) (v := ?vv41) (by simp only [List.getElem?_toArray, List.getElem?_cons_zero, List.getElem?_cons_succ]; rfl) (by kernel_rfl) (by kernel_rfl) (by kernel_rfl) (fun _ _ _ h => h) (Or.inl ⟨by rfl, ?yy41⟩) (by assumption) ?rr41
  case yy41 => (intro w hSw; (try dsimp only at hSw); go_simp; first | done | with_reducible rfl)
  simp only [Act.put, List.setIfInBounds_toArray, List.set_cons_zero, List.set_cons_succ]
  refine wpAnyH_take (i := 46) (v := ?vv42) (by simp only [List.getElem?_toArray, List.getElem?_cons_zero, List.getElem?_cons_succ]; rfl) (by kernel_rfl) (by kernel_rfl) (by kernel_rfl) (fun _ _ _ h => h) (Or.inl ⟨by rfl, ?yy42⟩) (by assumption) ?rr42
  case yy42 => (intro w hSw; (try dsimp only at hSw); go_simp; first | done | with_reducible rfl)
  simp only [Act.put, List.setIfInBounds_toArray, List.set_cons_zero, List.set_cons_succ]
  refine wpAnyH_take (i := 47) (v := ?vv43) (by simp only [List.getElem?_toArray, List.getElem?_cons_zero, List.getElem?_cons_succ]; rfl) (by kernel_rfl) (by kernel_rfl) (by kernel_rfl) (fun _ _ _ h => h) (Or.inl ⟨by rfl, ?yy43⟩) (by assumption) ?rr43
  case yy43 => (intro w hSw; (try dsimp only at hSw); go_simp; first | done | with_reducible rfl)
  simp only [Act.put, List.setIfInBounds_toArray, List.set_cons_zero, List.set_cons_succ]
  refine wpAnyH_take (i := 48) (v := ?vv44) (by simp only [List.getElem?_toArray, List.getElem?_cons_zero, List.getElem?_cons_succ]; rfl) (by kernel_rfl) (by kernel_rfl) (by kernel_rfl) (fun _ _ _ h => h) (Or.inl ⟨by rfl, ?yy44⟩) (by assumption) ?rr44
  case yy44 => (intro w hSw; (try dsimp only at hSw); go_simp; first | done | with_reducible rfl)
  simp only [Act.put, List.setIfInBounds_toArray, List.set_cons_zero, List.set_cons_succ]
  refine wpAnyH_take (i := 49) (v := ?vv45) (by simp only [List.getElem?_toArray, List.getElem?_cons_zero, List.getElem?_cons_succ]; rfl) (by kernel_rfl) (by kernel_rfl) (by kernel_rfl) (fun _ _ _ h => h) (Or.inl ⟨by rfl, ?yy45⟩) (by assumption) ?rr45
  case yy45 => (intro w hSw; (try dsimp only at hSw); go_simp; first | done | with_reducible rfl)
  simp only [Act.put, List.setIfInBounds_toArray, List.set_cons_zero, List.set_cons_succ]
  refine wpAnyH_take (i := 51) (v := ?vv46) (by simp only [List.getElem?_toArray, List.getElem?_cons_zero, List.getElem?_cons_succ]; rfl) (by kernel_rfl) (by kernel_rfl) (by kernel_rfl) (fun _ _ _ h => h) (Or.inl ⟨by rfl, ?yy46⟩) (by assumption) ?rr46
  case yy46 => (intro w hSw; (try dsimp only at hSw); go_simp; first | done | with_reducible rfl)
  simp only [Act.put, List.setIfInBounds_toArray, List.set_cons_zero, List.set_cons_succ]
  refine wpAnyH_take (i := 52) (v := ?vv47) (by simp only [List.getElem?_toArray, List.getElem?_cons_zero, List.getElem?_cons_succ]; rfl) (by kernel_rfl) (by kernel_rfl) (by kernel_rfl) (fun _ _ _ h => h) (Or.inl ⟨by rfl, ?yy47⟩) (by assumption) ?rr47
  case yy47 => (intro w hSw; (try dsimp only at hSw); go_simp; first | done | with_reducible rfl)
  simp only [Act.put, List.setIfInBounds_toArray, List.set_cons_zero, List.set_cons_succ]
  refine wpAnyH_take (i := 53) (v := ?vv48) (by simp only [List.getElem?_toArray, List.getElem?_cons_zero, List.getElem?_cons_succ]; rfl) (by kernel_rfl) (by kernel_rfl) (by kernel_rfl) (fun _ _ _ h => h) (Or.inl ⟨by rfl, ?yy48⟩) (by assumption) ?rr48
  case yy48 => (intro w hSw; (try dsimp only at hSw); go_simp; first | done | with_reducible rfl)
  simp only [Act.put, List.setIfInBounds_toArray, List.set_cons_zero, List.set_cons_succ]
  refine wpAnyH_take (i := 54) (v := ?vv49) (by simp only [List.getElem?_toArray, List.getElem?_cons_zero, List.getElem?_cons_succ]; rfl) (by kernel_rfl) (by kernel_rfl) (by kernel_rfl) (fun _ _ _ h => h) (Or.inl ⟨by rfl, ?yy49⟩) (by assumption) ?rr49
  case yy49 => (intro w hSw; (try dsimp only at hSw); go_simp; first | done | with_reducible rfl)
  simp only [Act.put, List.setIfInBounds_toArray, List.set_cons_zero, List.set_cons_succ]
  refine wpAnyH_ready (rs := [50]) (by kernel_rfl) (by simp) ?_
  refine AllReadyH.cons (by simp only [List.getElem?_toArray, List.getElem?_cons_zero, List.getElem?_cons_succ]; rfl) (fun K hK => ?_) AllReadyH.nil
  go_simp
  go_at_call 50
  (with_reducible refine (gindex8 c h x A cA n ls la a t ix HIX.out _ (HX.out.below (chain B10.out HC5.out)) LX.out hn).mono ?_)
  rintro e v6 ⟨rfl, hb⟩
  have HC6 := Lib.hid (HC5.out.trans (hb.mono HC5.out.size))
  clear hb hHeld
  have g0 := (HC6.out.cell (p := ⟨w.heap.size, 0, none⟩) lN).trans c0
  have g1 := (HC6.out.cell (p := ⟨w.heap.size, 1, none⟩) lN).trans c1
  have g2 := (HC6.out.cell (p := ⟨w.heap.size, 2, none⟩) lN).trans c2
  have g3 := (HC6.out.cell (p := ⟨w.heap.size, 3, none⟩) lN).trans c3
  have g4 := (HC6.out.cell (p := ⟨w7.heap.size, 0, none⟩) lQ1).trans x0
  have g5 := (HC6.out.cell (p := ⟨w7.heap.size, 1, none⟩) lQ1).trans x1
  have g6 := (HC6.out.cell (p := ⟨w7.heap.size, 2, none⟩) lQ1).trans x2
  have g7 := (HC6.out.cell (p := ⟨w7.heap.size, 3, none⟩) lQ1).trans x3
  have g8 := (HC6.out.cell (p := ⟨w7.heap.size, 4, none⟩) lQ1).trans x4
  have g9 := (HC6.out.cell (p := ⟨w9.heap.size, 0, none⟩) lQ2).trans y0
  have g10 := (HC6.out.cell (p := ⟨w9.heap.size, 1, none⟩) lQ2).trans y1
  have g11 := (HC6.out.cell (p := ⟨w9.heap.size, 2, none⟩) lQ2).trans y2
  have g12 := (HC6.out.cell (p := ⟨w9.heap.size, 3, none⟩) lQ2).trans y3
  have g13 := (HC6.out.cell (p := ⟨w9.heap.size, 4, none⟩) lQ2).trans y4
  go_wp2_with fail
  refine hK.out _ _ ⟨g0, g1, g2, g3, g4, g5, g6, g7, g8, g9, g10, g11, g12, g13⟩ (fun hHeld => ?_)
  clear hK K g0 g1 g2 g3 g4 g5 g6 g7 g8 g9 g10 g11 g12 g13 HC5
  try simp only [Act.put, List.setIfInBounds_toArray, List.set_cons_zero, List.set_cons_succ]
  refine wpAnyH_ready (rs := [55]) (by kernel_rfl) (by simp) ?_
  refine AllReadyH.cons (by simp only [List.getElem?_toArray, List.getElem?_cons_zero, List.getElem?_cons_succ]; rfl) (fun K hK => ?_) AllReadyH.nil
  go_simp
  go_at_call 51
  (with_reducible refine (rindex8 c h x A cA n ls la a t ix HIX.out _ (HX.out.below (chain B10.out HC6.out)) LX.out hn).mono ?_)
  rintro e v7 ⟨rfl, hb⟩
  have HC7 := Lib.hid (HC6.out.trans (hb.mono HC6.out.size))
  clear hb hHeld
  have g0 := (HC7.out.cell (p := ⟨w.heap.size, 0, none⟩) lN).trans c0
  have g1 := (HC7.out.cell (p := ⟨w.heap.size, 1, none⟩) lN).trans c1
  have g2 := (HC7.out.cell (p := ⟨w.heap.size, 2, none⟩) lN).trans c2
  have g3 := (HC7.out.cell (p := ⟨w.heap.size, 3, none⟩) lN).trans c3
  have g4 := (HC7.out.cell (p := ⟨w7.heap.size, 0, none⟩) lQ1).trans x0
  have g5 := (HC7.out.cell (p := ⟨w7.heap.size, 1, none⟩) lQ1).trans x1
  have g6 := (HC7.out.cell (p := ⟨w7.heap.size, 2, none⟩) lQ1).trans x2
  have g7 := (HC7.out.cell (p := ⟨w7.heap.size, 3, none⟩) lQ1).trans x3
  have g8 := (HC7.out.cell (p := ⟨w7.heap.size, 4, none⟩) lQ1).trans x4
  have g9 := (HC7.out.cell (p := ⟨w9.heap.size, 0, none⟩) lQ2).trans y0
  have g10 := (HC7.out.cell (p := ⟨w9.heap.size, 1, none⟩) lQ2).trans y1
  have g11 := (HC7.out.cell (p := ⟨w9.heap.size, 2, none⟩) lQ2).trans y2
  have g12 := (HC7.out.cell (p := ⟨w9.heap.size, 3, none⟩) lQ2).trans y3
  have g13 := (HC7.out.cell (p := ⟨w9.heap.size, 4, none⟩) lQ2).trans y4
  go_wp2_with fail
  refine hK.out _ _ ⟨g0, g1, g2, g3, g4, g5, g6, g7, g8, g9, g10, g11, g12, g13⟩ (fun hHeld => ?_)
  clear hK K g0 g1 g2 g3 g4 g5 g6 g7 g8 g9 g10 g11 g12 g13 HC6
  try simp only [Act.put, List.setIfInBounds_toArray, List.set_cons_zero, List.set_cons_succ]
  refine wpAnyH_take (i := 56) (v := ?vv50) (by simp only [List.getElem?_toArray, List.getElem?_cons_zero, List.getElem?_cons_succ]; rfl) (by kernel_rfl) (by kernel_rfl) (by kernel_rfl) (fun _ _ _ h => h) (Or.inl ⟨by rfl, ?yy50⟩) (by assumption) ?rr50
  case yy50 => (intro w hSw; (try dsimp only at hSw); go_simp; first | done | with_reducible rfl)
  simp only [Act.put, List.setIfInBounds_toArray, List.set_cons_zero, List.set_cons_succ]
  refine wpAnyH_take (i := 57) (v := ?vv51) (by simp only [List.getElem?_toArray, List.getElem?_cons_zero, List.getElem?_cons_succ]; rfl) (by kernel_rfl) (by kernel_rfl) (by kernel_rfl) (fun _ _ _ h => h) (Or.inl ⟨by rfl, ?yy51⟩) (by assumption) ?rr51
  case yy51 => (intro w hSw; (try dsimp only at hSw); go_simp; first | done | with_reducible rfl)
  simp only [Act.put, List.setIfInBounds_toArray, List.set_cons_zero, List.set_cons_succ]
  refine wpAnyH_take (i := 58) (v := ?vv52) (by simp only [List.getElem?_toArray, List.getElem?_cons_zero, List.getElem?_cons_succ]; rfl) (by kernel_rfl) (by kernel_rfl) (by kernel_rfl) (fun _ _ _ h => h) (Or.inl ⟨by rfl, ?yy52⟩) (by assumption) ?rr52
  case yy52 => (intro w hSw; (try dsimp only at hSw); go_simp; first | done | with_reducible rfl)
  simp only [Act.put, List.setIfInBounds_toArray, List.set_cons_zero, List.set_cons_succ]
  refine wpAnyH_done (by kernel_rfl) ?_ _
  refine NoPanic.normal ?_
  go_wp2_with fail
  go_ret
  exact ⟨rfl, chain B10.out HC7.out⟩

end Go.Proofs.Ytnfmpladdfgadaa
