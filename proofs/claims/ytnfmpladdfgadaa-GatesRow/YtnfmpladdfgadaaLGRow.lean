/-
  GatesRow: the ranges of all stages are all gates, one behind the other; lines are all positions.
-/
import Derived.Test.YtnfmpladdfgadaaGHead
import Derived.Test.YtnfmpladdfgadaaRefA
import Derived.Deep.QuietTactic
import Derived.Deep.LoopGhost
namespace Go.Proofs.Ytnfmpladdfgadaa
open Go.RowKit

theorem gate_layer {c h x : Int} {ls : List Ly} (hn : ls.length ≤ 60) (y : St ⟨c, h, x, ls⟩) {g : Int} (hc : cov ⟨c, h, x, ls⟩ y.1 g) : (gateN ⟨c, h, x, ls⟩ g).l = ((y.1 : Nat) : Int) := by
  obtain ⟨j, j1, j2⟩ := cov_term hn y hc
  rw [(gate_of y (List.getElem?_eq_getElem j1) j2).1]
theorem stages_none {N : Nt} (e : ¬ errN N = 0) : stagesN N = [] := if_neg e
theorem tot_none {N : Nt} (e : ¬ errN N = 0) : totP (knN N) = 0 := by rw [knN_no e]; rfl
theorem line_none {N : Nt} (e : ¬ errN N = 0) (s : Int) : lineN N s = (0, 0) := by
  unfold lineN rangeN
  rw [if_neg fun z => e z.1, if_neg (by rw [stages_none e]; simp)]; rfl
/-- What is told of stage k. -/
theorem stage_k {c h x : Int} {ls : List Ly} (e : errN ⟨c, h, x, ls⟩ = 0) (hn : ls.length ≤ 60) {k : Nat} (hk : k < (stagesN ⟨c, h, x, ls⟩).length) :
    ∃ (y : St ⟨c, h, x, ls⟩) (v f m : Int), (stagesN ⟨c, h, x, ls⟩)[k]? = some v ∧ v = ((y.1 : Nat) : Int) ∧ rangeN ⟨c, h, x, ls⟩ (k : Nat) = (f, m) ∧ lineN ⟨c, h, x, ls⟩ (k : Nat) = (2 * f, 2 * m) ∧ f = totP (((stagesN ⟨c, h, x, ls⟩).take k).map (atN ⟨c, h, x, ls⟩)) ∧ f + m = totP (((stagesN ⟨c, h, x, ls⟩).take (k + 1)).map (atN ⟨c, h, x, ls⟩)) ∧ 1 ≤ m ∧ 0 ≤ f ∧ f + m ≤ 512 ∧ (gateN ⟨c, h, x, ls⟩ f).l = v ∧ (gateN ⟨c, h, x, ls⟩ (f + m - 1)).l = v := by
  have gk := st_get hk
  rw [show stagesN ⟨c, h, x, ls⟩ = stK ls ls.length from if_pos e] at gk
  obtain ⟨y, hv, hy⟩ := num_at e ls.length k _ (Nat.le_refl _) gk
  rw [← show stagesN ⟨c, h, x, ls⟩ = stK ls ls.length from if_pos e] at gk hv
  have hr := range_of y
  rw [hy] at hr
  have h2 := range_yes hk
  rw [hr] at h2
  injection h2 with h3 h4
  obtain ⟨_, f2, f3, f4, _, _, _⟩ := st_facts hn y
  have f5 := gates_bd (c := c) (h := h) (x := x) (ls := ls)
  refine ⟨y, _, firstS ⟨c, h, x, ls⟩ y.1, manyS ⟨c, h, x, ls⟩ y.1, gk, hv, hr, ?_, h3, ?_, f3, f2, by omega, ?_, ?_⟩
  · unfold lineN
    rw [if_neg (by omega), hr]
  · rw [take_get gk, List.map_append]
    have := (tot_snoc (((stagesN ⟨c, h, x, ls⟩).take k).map (atN ⟨c, h, x, ls⟩)) (atN ⟨c, h, x, ls⟩ ((stagesN ⟨c, h, x, ls⟩).getD k 0))).2
    show _ = totP (_ ++ [_])
    rw [this, h3, h4]
  · rw [hv]; exact gate_layer hn y ⟨Int.le_refl _, by omega⟩
  · rw [hv]; exact gate_layer hn y ⟨by omega, by omega⟩
theorem stage_end {c h x : Int} {ls : List Ly} (e : errN ⟨c, h, x, ls⟩ = 0) : totP (((stagesN ⟨c, h, x, ls⟩).take (stagesN ⟨c, h, x, ls⟩).length).map (atN ⟨c, h, x, ls⟩)) = totP (knN ⟨c, h, x, ls⟩) := by
  rw [List.take_length, show stagesN ⟨c, h, x, ls⟩ = stK ls ls.length from if_pos e, st_sum e _ (Nat.le_refl _), ← gates_total, show gatesN ⟨c, h, x, ls⟩ = gatesK ⟨c, h, x, ls⟩ ls.length from if_pos e]
theorem stage_sorted {c h x : Int} {ls : List Ly} {i j : Nat} {u v : Int} (hi : (stagesN ⟨c, h, x, ls⟩)[i]? = some u) (hj : (stagesN ⟨c, h, x, ls⟩)[j]? = some v) (hij : i < j) : u < v := by
  by_cases e : errN ⟨c, h, x, ls⟩ = 0
  · rw [show stagesN ⟨c, h, x, ls⟩ = stK ls ls.length from if_pos e] at hi hj
    obtain ⟨l1, e1⟩ := List.getElem?_eq_some_iff.1 hi
    obtain ⟨l2, e2⟩ := List.getElem?_eq_some_iff.1 hj
    rw [← e1, ← e2]
    exact List.pairwise_iff_getElem.1 (stK_sorted ls ls.length) i j l1 l2 hij
  · rw [stages_none e] at hi; simp at hi

set_option maxHeartbeats 8000000 in
set_option maxRecDepth 100000 in
theorem law_grow (c h x : Int) (A : Option Addr) (cA n : Nat) (ls : List Ly) (w : World) (hx : Rl w A ls) (ln : n = ls.length) :
    Calls Try.prog 9 #[.agg #[.int .i64 c, .int .i64 h, .int .i64 x, .slice A n cA]] w fun e w' => e = .returned (.bool true) ∧ Below w.heap.size w w' := by
  have HX := Lib.hid hx; have LX := Lib.hid ln
  clear hx ln
  go_enter Try.func9, Try.ntmps9
  go_wp2_with fail
  refine (head8_any _).mono ?_
  rintro e w1 ⟨rfl, hb⟩
  have B1 := Lib.hid (chain ((Below.refl w.heap.size w).alloc (Nat.le_refl _) _) hb)
  have N1 := Lib.hid ((NB.new w c h x (.slice A n cA)).below hb)
  clear hb
  have lN := N1.out.lt
  obtain ⟨c0, c1, c2, c3⟩ := N1.out.cells
  by_cases hg : 60 < n
  · have d : decide (60 < (n : Int)) = true := by simp; omega
    go_wp2_with fail
    refine (great_any c h x A cA n _ true d).mono ?_
    rintro e w2 ⟨rfl, hb⟩
    have B2 := Lib.hid (chain B1.out hb)
    have N2 := Lib.hid (N1.out.below hb)
    clear hb c0 c1 c2 c3 lN B1 N1
    have lN := N2.out.lt
    obtain ⟨c0, c1, c2, c3⟩ := N2.out.cells
    clear hg d
    go_wp2_with fail
    go_ret
    exact ⟨rfl, B2.out⟩
  have d : decide (60 < (n : Int)) = false := by simp; omega
  have hn : n ≤ 60 := by omega
  have hn1 : n ≤ 1000 := by omega
  have l60 : ls.length ≤ 60 := by rw [← LX.out]; exact hn
  go_wp2_with fail
  refine (great_any c h x A cA n _ false d).mono ?_
  rintro e w2 ⟨rfl, hb⟩
  have B2 := Lib.hid (chain B1.out hb)
  have N2 := Lib.hid (N1.out.below hb)
  clear hb c0 c1 c2 c3 lN B1 N1
  have lN := N2.out.lt
  obtain ⟨c0, c1, c2, c3⟩ := N2.out.cells
  clear hg d
  obtain ⟨er, her⟩ : ∃ er, er = errN ⟨c, h, x, ls⟩ := ⟨_, rfl⟩
  obtain ⟨st, hst⟩ : ∃ st, stagesN ⟨c, h, x, ls⟩ = st := ⟨_, rfl⟩
  obtain ⟨T, hT⟩ : ∃ T, totP (knN ⟨c, h, x, ls⟩) = T := ⟨_, rfl⟩
  have HER := Lib.hid her; have HST := Lib.hid hst; have HT := Lib.hid hT
  clear her hst hT
  go_wp2_with fail
  refine (gstages_is c h x A cA n ls st HST.out _ (HX.out.below B2.out) LX.out hn).mono ?_
  rintro e w3 ⟨A1, k1, n1, rfl, hn2, hR2, hb, hd1, hd2⟩
  have P1 := Lib.hid hR2; have M1 := Lib.hid hn2
  clear hR2 hn2 hd1 hd2
  have B3 := Lib.hid (chain B2.out hb)
  have N3 := Lib.hid (N2.out.below hb)
  clear hb c0 c1 c2 c3 lN B2 N2
  have lN := N3.out.lt
  obtain ⟨c0, c1, c2, c3⟩ := N3.out.cells
  go_wp2_with fail
  refine (rright_of c h x A cA n ls _ (HX.out.below B3.out) LX.out hn1).mono ?_
  rintro e w4 ⟨rfl, hb⟩
  rw [← HER.out]
  have B4 := Lib.hid (chain B3.out hb)
  have N4 := Lib.hid (N3.out.below hb)
  have P1 := Lib.hid (P1.out.below hb)
  clear hb c0 c1 c2 c3 lN B3 N3
  have lN := N4.out.lt
  obtain ⟨c0, c1, c2, c3⟩ := N4.out.cells
  by_cases h0 : ¬ er = 0
  · have b0 : (er == 0) = false := by simpa using h0
    have HE : Hid (¬ errN ⟨c, h, x, ls⟩ = 0) := by rw [← HER.out]; exact h0
    have z0 : n1 = 0 := by have := M1.out; rw [← HST.out, stages_none HE.out] at this; exact this
    have z1 : T = 0 := by rw [← HT.out]; exact tot_none HE.out
    subst z0 z1
    clear h0
    go_wp2_with fail
    refine (gline8 c h x A cA n ls 0 0 0 (line_none HE.out 0) _ (HX.out.below B4.out) LX.out hn).mono ?_
    rintro e w5 ⟨rfl, hb⟩
    have B5 := Lib.hid (chain B4.out hb)
    have N5 := Lib.hid (N4.out.below hb)
    have P1 := Lib.hid (P1.out.below hb)
    clear hb c0 c1 c2 c3 lN B4 N4
    have lN := N5.out.lt
    obtain ⟨c0, c1, c2, c3⟩ := N5.out.cells
    go_wp2_with fail
    refine (gtotal_is c h x A cA n ls 0 HT.out _ (HX.out.below B5.out) LX.out hn).mono ?_
    rintro e w6 ⟨rfl, hb⟩
    have B6 := Lib.hid (chain B5.out hb)
    have N6 := Lib.hid (N5.out.below hb)
    have P1 := Lib.hid (P1.out.below hb)
    clear hb c0 c1 c2 c3 lN B5 N5
    have lN := N6.out.lt
    obtain ⟨c0, c1, c2, c3⟩ := N6.out.cells
    go_wp2_with fail
    go_ret
    exact ⟨rfl, B6.out⟩
  have h0 : er = 0 := Decidable.not_not.1 h0
  have b0 : (er == 0) = true := by rw [h0]; rfl
  have HE : Hid (errN ⟨c, h, x, ls⟩ = 0) := HER.out.symm.trans h0
  have n6 : n1 ≤ 60 := by
    rw [M1.out, ← HST.out, show stagesN ⟨c, h, x, ls⟩ = stK ls ls.length from if_pos HE.out]
    exact Nat.le_trans (stK_len ls _) l60
  clear h0
  go_wp2_with fail
  go_loopg [7, 8] n1 (fun gh s7 s8 wx => ∃ k : Nat, k ≤ n1 ∧ Hid (gh = n1 - k) ∧ s8 = .int .i64 (k : Int) ∧ s7 = .int .i64 (totP ((st.take k).map (atN ⟨c, h, x, ls⟩))) ∧ Hid (Below w.heap.size w wx) ∧ Hid (NB wx w.heap.size c h x (.slice A n cA)) ∧ Hid (Rg icells wx A1 st))
  case atStart => exact ⟨0, Nat.zero_le _, by show _ = _; omega, rfl, rfl, B4, N4, P1⟩
  case round =>
    clear c0 c1 c2 c3 lN B4 N4 P1
    obtain ⟨k, hk, HGH, rfl, rfl, B5, N5, P1⟩ := hrel
    have lN := N5.out.lt
    obtain ⟨c0, c1, c2, c3⟩ := N5.out.cells
    by_cases kn : k < n1
    · have ki : (k : Int) < (n1 : Int) := by omega
      have ka : (0 : Int) ≤ (k : Int) := by omega
      obtain ⟨y, v, f, m, gv, hvy, hr, hl, hf, hfm, m1, f0, fm, hg1, hg2⟩ := stage_k HE.out l60 (k := k) (by rw [HST.out, ← M1.out]; exact kn)
      rw [HST.out] at gv hf hfm
      obtain ⟨G1, hG1⟩ : ∃ G1, gateN ⟨c, h, x, ls⟩ f = G1 := ⟨_, rfl⟩
      obtain ⟨G2, hG2⟩ : ∃ G2, gateN ⟨c, h, x, ls⟩ (f + m - 1) = G2 := ⟨_, rfl⟩
      obtain ⟨r1, hr1⟩ : ∃ r1, hasG ⟨c, h, x, ls⟩ f = r1 := ⟨_, rfl⟩
      obtain ⟨r2, hr2⟩ : ∃ r2, hasG ⟨c, h, x, ls⟩ (f + m - 1) = r2 := ⟨_, rfl⟩
      rw [hG1] at hg1
      rw [hG2] at hg2
      have HRA := Lib.hid hr; have HLI := Lib.hid hl; have HF := Lib.hid hf; have HFM := Lib.hid hfm; have HG1 := Lib.hid hG1; have HG2 := Lib.hid hG2; have HR1 := Lib.hid hr1; have HR2 := Lib.hid hr2; have GV := Lib.hid gv
      rw [← HF.out]
      have v1 : IntKind.i64.wrap (2 * f) = 2 * f := by rw [IntWalk.i64_in _ (by omega)]
      have v2 : wrap64 (2 * f) = 2 * f := by rw [IntWalk.wrap64_in _ (by omega)]
      have v3 : IntKind.i64.wrap (2 * m) = 2 * m := by rw [IntWalk.i64_in _ (by omega)]
      have v4 : wrap64 (2 * m) = 2 * m := by rw [IntWalk.wrap64_in _ (by omega)]
      have v5 : IntKind.i64.wrap (f + m) = f + m := by rw [IntWalk.i64_in _ (by omega)]
      have v6 : wrap64 (f + m) = f + m := by rw [IntWalk.wrap64_in _ (by omega)]
      have v7 : IntKind.i64.wrap (f + m - 1) = f + m - 1 := by rw [IntWalk.i64_in _ (by omega)]
      have v8 : wrap64 (f + m - 1) = f + m - 1 := by rw [IntWalk.wrap64_in _ (by omega)]
      have e1 : decide (m < 1) = false := decide_eq_false (by omega)
      have e2 : (G1.l != v) = false := by rw [hg1]; simp
      have e3 : (G2.l != v) = false := by rw [hg2]; simp
      have K1 : Hid (k < n1) := kn
      have AK : Hid (0 < n1) := by show _ < _; omega
      clear hvy gv hr hl hf hfm hG1 hG2 hr1 hr2 hg1 hg2 m1 f0 fm
      go_wp2_with fail
      refine (grange8 c h x A cA n ls (k : Int) f m HRA.out _ (HX.out.below B5.out) LX.out hn).mono ?_
      rintro e w6 ⟨rfl, hb⟩
      have B6 := Lib.hid (chain B5.out hb)
      have N6 := Lib.hid (N5.out.below hb)
      have P1 := Lib.hid (P1.out.below hb)
      clear hb c0 c1 c2 c3 lN B5 N5
      have lN := N6.out.lt
      obtain ⟨c0, c1, c2, c3⟩ := N6.out.cells
      go_wp2_with fail
      refine (gline8 c h x A cA n ls (k : Int) (2 * f) (2 * m) HLI.out _ (HX.out.below B6.out) LX.out hn).mono ?_
      rintro e w7 ⟨rfl, hb⟩
      have B7 := Lib.hid (chain B6.out hb)
      have N7 := Lib.hid (N6.out.below hb)
      have P1 := Lib.hid (P1.out.below hb)
      clear hb c0 c1 c2 c3 lN B6 N6
      have lN := N7.out.lt
      obtain ⟨c0, c1, c2, c3⟩ := N7.out.cells
      obtain ⟨bS, oS, rfl, lS, qS⟩ := P1.out (by rw [← M1.out]; exact AK.out)
      have z0 := in_cell qS GV.out
      by_cases k0 : k = 0
      · subst k0
        have kz : (0 : Int) < (n1 : Int) := by have := AK.out; omega
        have kz2 : 0 < n1 := AK.out
        go_wp2_with fail
        go_quiet (fail)
        obtain ⟨w8, hV⟩ : ∃ V, V = w7.drewN nq := ⟨_, rfl⟩
        have hb : Below w7.heap.size w7 w8 := by rw [hV]; exact chain_drewN (Below.refl _ _) _
        rw [← hV]
        clear hV
        have B8 := Lib.hid (chain B7.out hb)
        have N8 := Lib.hid (N7.out.below hb)
        have P1 := Lib.hid (P1.out.below hb)
        clear hb c0 c1 c2 c3 lN B7 N7
        have lN := N8.out.lt
        obtain ⟨c0, c1, c2, c3⟩ := N8.out.cells
        go_wp2_with fail
        refine (ggate_is c h x A cA n ls f G1 r1 HG1.out HR1.out _ (HX.out.below B8.out) LX.out hn).mono ?_
        rintro e w9 ⟨rfl, hb⟩
        have B9 := Lib.hid (chain B8.out hb)
        have N9 := Lib.hid (N8.out.below hb)
        have P1 := Lib.hid (P1.out.below hb)
        clear hb c0 c1 c2 c3 lN B8 N8
        have lN := N9.out.lt
        obtain ⟨c0, c1, c2, c3⟩ := N9.out.cells
        clear z0
        go_wp2_with fail
        obtain ⟨w10, hV⟩ : ∃ V, V = w9.alloc (.cells #[.int .i64 G1.l, .int .i64 G1.a, .int .i64 G1.t, .int .i64 G1.x, .int .i64 G1.w] 54) := ⟨_, rfl⟩
        have hb : Below w9.heap.size w9 w10 := by rw [hV]; exact (Below.refl _ w9).alloc (Nat.le_refl _) _
        have Q1 : Hid (GB w10 w9.heap.size G1) := by rw [hV]; exact heap_alloc_new w9 _
        rw [← hV]
        clear hV
        have B10 := Lib.hid (chain B9.out hb)
        have N10 := Lib.hid (N9.out.below hb)
        have P1 := Lib.hid (P1.out.below hb)
        clear hb c0 c1 c2 c3 lN B9 N9
        have lN := N10.out.lt
        obtain ⟨c0, c1, c2, c3⟩ := N10.out.cells
        refine (ggate_is c h x A cA n ls (f + m - 1) G2 r2 HG2.out HR2.out _ (HX.out.below B10.out) LX.out hn).mono ?_
        rintro e w11 ⟨rfl, hb⟩
        have B11 := Lib.hid (chain B10.out hb)
        have N11 := Lib.hid (N10.out.below hb)
        have P1 := Lib.hid (P1.out.below hb)
        have Q1 := Lib.hid (Q1.out.below hb)
        clear hb c0 c1 c2 c3 lN B10 N10
        have lN := N11.out.lt
        obtain ⟨c0, c1, c2, c3⟩ := N11.out.cells
        obtain ⟨bT, oT, eT, lT, qT⟩ := P1.out (by rw [← M1.out]; exact AK.out)
        cases eT
        have z0 : w11.cell? ⟨bS, oS, none⟩ = some (.int .i64 v) := in_cell qT GV.out
        obtain ⟨x0, _, _, _, _⟩ := Q1.out.cells
        have lQ := Q1.out.lt
        clear qT qS
        go_wp2_with fail
        go_quiet (fail)
        have hb : Below w11.heap.size w11 ((w11.alloc (.cells #[.int .i64 G2.l, .int .i64 G2.a, .int .i64 G2.t, .int .i64 G2.x, .int .i64 G2.w] 54)).drewN nq) := chain_drewN ((Below.refl _ _).alloc (Nat.le_refl _) _) _
        have BE := Lib.hid (chain B11.out hb); have NE := Lib.hid (N11.out.below hb); have PE := Lib.hid (P1.out.below hb)
        clear hb z0 x0
        go_wp2_with fail
        go_roundg (n1 - (0 + 1))
        case measure => have := HGH.out; omega
        case rel => exact ⟨0 + 1, by have := K1.out; omega, rfl, by go_num, by rw [HFM.out], BE, NE, PE⟩
      obtain ⟨j, hj⟩ : ∃ j : Nat, j + 1 = k := ⟨k - 1, by omega⟩
      obtain ⟨u, gu⟩ : ∃ u, st[j]? = some u := ⟨_, List.getElem?_eq_getElem (by rw [← M1.out]; omega)⟩
      have uv : u < v := stage_sorted (by rw [HST.out]; exact gu) (by rw [HST.out]; exact GV.out) (by omega)
      have e4 : decide (v ≤ u) = false := decide_eq_false (by omega)
      have e5 : decide (0 < (k : Int)) = true := decide_eq_true (by omega)
      have e6 : decide (0 < k) = true := decide_eq_true (by omega)
      have z1 := in_cell qS gu
      have w1 : IntKind.i64.wrap ((k : Int) - 1) = (j : Int) := by rw [IntWalk.i64_in _ (by omega)]; omega
      have w2 : wrap64 ((k : Int) - 1) = (j : Int) := by rw [IntWalk.wrap64_in _ (by omega)]; omega
      have ji : (j : Int) < (n1 : Int) := by omega
      have ja : (0 : Int) ≤ (j : Int) := by omega
      clear k0 uv gu
      go_wp2_with fail
      go_quiet (fail)
      obtain ⟨w8, hV⟩ : ∃ V, V = w7.drewN nq := ⟨_, rfl⟩
      have hb : Below w7.heap.size w7 w8 := by rw [hV]; exact chain_drewN (Below.refl _ _) _
      rw [← hV]
      clear hV
      have B8 := Lib.hid (chain B7.out hb)
      have N8 := Lib.hid (N7.out.below hb)
      have P1 := Lib.hid (P1.out.below hb)
      clear hb c0 c1 c2 c3 lN B7 N7
      have lN := N8.out.lt
      obtain ⟨c0, c1, c2, c3⟩ := N8.out.cells
      go_wp2_with fail
      refine (ggate_is c h x A cA n ls f G1 r1 HG1.out HR1.out _ (HX.out.below B8.out) LX.out hn).mono ?_
      rintro e w9 ⟨rfl, hb⟩
      have B9 := Lib.hid (chain B8.out hb)
      have N9 := Lib.hid (N8.out.below hb)
      have P1 := Lib.hid (P1.out.below hb)
      clear hb c0 c1 c2 c3 lN B8 N8
      have lN := N9.out.lt
      obtain ⟨c0, c1, c2, c3⟩ := N9.out.cells
      clear z0 z1 e4 e5 e6 w1 w2
      go_wp2_with fail
      obtain ⟨w10, hV⟩ : ∃ V, V = w9.alloc (.cells #[.int .i64 G1.l, .int .i64 G1.a, .int .i64 G1.t, .int .i64 G1.x, .int .i64 G1.w] 54) := ⟨_, rfl⟩
      have hb : Below w9.heap.size w9 w10 := by rw [hV]; exact (Below.refl _ w9).alloc (Nat.le_refl _) _
      have Q1 : Hid (GB w10 w9.heap.size G1) := by rw [hV]; exact heap_alloc_new w9 _
      rw [← hV]
      clear hV
      have B10 := Lib.hid (chain B9.out hb)
      have N10 := Lib.hid (N9.out.below hb)
      have P1 := Lib.hid (P1.out.below hb)
      clear hb c0 c1 c2 c3 lN B9 N9
      have lN := N10.out.lt
      obtain ⟨c0, c1, c2, c3⟩ := N10.out.cells
      refine (ggate_is c h x A cA n ls (f + m - 1) G2 r2 HG2.out HR2.out _ (HX.out.below B10.out) LX.out hn).mono ?_
      rintro e w11 ⟨rfl, hb⟩
      have B11 := Lib.hid (chain B10.out hb)
      have N11 := Lib.hid (N10.out.below hb)
      have P1 := Lib.hid (P1.out.below hb)
      have Q1 := Lib.hid (Q1.out.below hb)
      clear hb c0 c1 c2 c3 lN B10 N10
      have lN := N11.out.lt
      obtain ⟨c0, c1, c2, c3⟩ := N11.out.cells
      obtain ⟨bT, oT, eT, lT, qT⟩ := P1.out (by rw [← M1.out]; exact AK.out)
      cases eT
      have z0 : w11.cell? ⟨bS, oS + k, none⟩ = some (.int .i64 v) := in_cell qT GV.out
      obtain ⟨x0, _, _, _, _⟩ := Q1.out.cells
      have lQ := Q1.out.lt
      clear qT qS
      go_wp2_with fail
      go_quiet (fail)
      have hb : Below w11.heap.size w11 ((w11.alloc (.cells #[.int .i64 G2.l, .int .i64 G2.a, .int .i64 G2.t, .int .i64 G2.x, .int .i64 G2.w] 54)).drewN nq) := chain_drewN ((Below.refl _ _).alloc (Nat.le_refl _) _) _
      have BE := Lib.hid (chain B11.out hb); have NE := Lib.hid (N11.out.below hb); have PE := Lib.hid (P1.out.below hb)
      clear hb z0 x0
      go_wp2_with fail
      go_roundg (n1 - (k + 1))
      case measure => have := HGH.out; omega
      case rel => exact ⟨k + 1, by have := K1.out; omega, rfl, by go_num, by rw [HFM.out], BE, NE, PE⟩
    · obtain rfl : k = n1 := by omega
      have AE : Hid (totP ((st.take k).map (atN ⟨c, h, x, ls⟩)) = T) := by
        have := stage_end HE.out
        rw [HST.out] at this
        show _ = _
        rw [M1.out, this]; exact HT.out
      rw [AE.out]
      obtain ⟨E, hE⟩ : ∃ E, E = endS ⟨c, h, x⟩ ls := ⟨_, rfl⟩
      have HLI : Hid (lineN ⟨c, h, x, ls⟩ (k : Int) = (2 * T, E.n)) := by
        show _ = _
        rw [hE, ← HT.out]
        exact if_pos ⟨HE.out, by rw [HST.out, ← M1.out]⟩
      obtain ⟨T0, T1⟩ : 0 ≤ T ∧ T ≤ 512 := by
        have := gates_bd (c := c) (h := h) (x := x) (ls := ls)
        have := gates_total (c := c) (h := h) (x := x) (ls := ls)
        rw [HT.out] at this
        omega
      have v1 : IntKind.i64.wrap (2 * T) = 2 * T := by rw [IntWalk.i64_in _ (by omega)]
      have v2 : wrap64 (2 * T) = 2 * T := by rw [IntWalk.wrap64_in _ (by omega)]
      have HEE := Lib.hid hE
      clear hE
      go_wp2_with fail
      refine (rshapes_any c h x A cA n ls _ (HX.out.below B5.out) LX.out hn1).mono ?_
      rintro e w6 ⟨A2, k2, n2, rfl, hn2, hR2, hb, hd1, hd2⟩
      rw [HE.out]
      have P2 := Lib.hid hR2; have M2 := Lib.hid hn2
      clear hR2 hn2 hd1 hd2
      have B6 := Lib.hid (chain B5.out hb)
      have N6 := Lib.hid (N5.out.below hb)
      have P1 := Lib.hid (P1.out.below hb)
      clear hb c0 c1 c2 c3 lN B5 N5
      have lN := N6.out.lt
      obtain ⟨c0, c1, c2, c3⟩ := N6.out.cells
      go_wp2_with fail
      refine (gline8 c h x A cA n ls (k : Int) (2 * T) E.n HLI.out _ (HX.out.below B6.out) LX.out hn).mono ?_
      rintro e w7 ⟨rfl, hb⟩
      have B7 := Lib.hid (chain B6.out hb)
      have N7 := Lib.hid (N6.out.below hb)
      have P1 := Lib.hid (P1.out.below hb)
      have P2 := Lib.hid (P2.out.below hb)
      clear hb c0 c1 c2 c3 lN B6 N6
      have lN := N7.out.lt
      obtain ⟨c0, c1, c2, c3⟩ := N7.out.cells
      go_wp2_with fail
      refine (gtotal_is c h x A cA n ls T HT.out _ (HX.out.below B7.out) LX.out hn).mono ?_
      rintro e w8 ⟨rfl, hb⟩
      have B8 := Lib.hid (chain B7.out hb)
      have N8 := Lib.hid (N7.out.below hb)
      have P1 := Lib.hid (P1.out.below hb)
      have P2 := Lib.hid (P2.out.below hb)
      clear hb c0 c1 c2 c3 lN B7 N7
      have lN := N8.out.lt
      obtain ⟨c0, c1, c2, c3⟩ := N8.out.cells
      have hR := P2.out
      have hl1 := M2.out
      rw [shN_ok HE.out] at hR hl1
      rw [sh_len, ← LX.out] at hl1
      obtain ⟨bS, oS, rfl, lS, qS⟩ := hR (by rw [sh_len]; omega)
      have gT : (shL ⟨c, h, x⟩ ls)[n]? = some E := by
        have := sh_get ls ⟨c, h, x⟩ n (by rw [← LX.out]; exact Nat.le_refl _)
        rw [LX.out, List.take_length, ← HEE.out] at this
        rw [LX.out]; exact this
      obtain ⟨t0, t1, t2⟩ := sh_at qS gT
      have i1 : (n : Int) < (n2 : Int) := by omega
      have i2 : n < n2 := by omega
      have i3 : (0 : Int) ≤ (n : Int) := by omega
      have v3 : IntKind.i64.wrap ((n2 : Int) - 1) = (n : Int) := by rw [IntWalk.i64_in _ (by omega)]; omega
      have v4 : wrap64 ((n2 : Int) - 1) = (n : Int) := by rw [IntWalk.wrap64_in _ (by omega)]; omega
      have PS : Hid (∀ w, Calls Try.prog 52 #[.agg #[.int .i64 E.c, .int .i64 E.h, .int .i64 E.x]] w fun e w' => e = .returned (.int .i64 E.n) ∧ Below w.heap.size w w') := fun w => rsize_any _ _ _ w
      clear hR hl1 qS gT
      go_wp2_with fail
      refine (PS.out _).mono ?_
      rintro e w9 ⟨rfl, hb⟩
      have B9 := Lib.hid (chain B8.out hb)
      have N9 := Lib.hid (N8.out.below hb)
      have P1 := Lib.hid (P1.out.below hb)
      have P2 := Lib.hid (P2.out.below hb)
      clear hb c0 c1 c2 c3 lN B8 N8
      have lN := N9.out.lt
      obtain ⟨c0, c1, c2, c3⟩ := N9.out.cells
      go_wp2_with fail
      go_ret
      exact ⟨rfl, B9.out⟩

end Go.Proofs.Ytnfmpladdfgadaa
