/-
  GatesAhead: with layers taken off at the end all gates that are left are what they were.
-/
import Derived.Test.YtnfmpladdfgadaaGHead
import Derived.Test.YtnfmpladdfgadaaRefA
import Derived.Deep.LoopGhost
namespace Go.Proofs.Ytnfmpladdfgadaa
open Go.RowKit

theorem ah_take {w : World} {A : Option Addr} {ls : List Ly} (h : Rl w A ls) (k : Nat) : Rl w A (ls.take k) := fun h0 => by
  rw [List.length_take] at h0
  obtain ⟨b, off, e, hlt, hc⟩ := h (by omega)
  refine ⟨b, off, e, hlt, fun j hj => ?_⟩
  rw [List.length_take] at hj
  have : (ls.take k).getD j Ly.z = ls.getD j Ly.z := by
    rw [List.getD_eq_getElem?_getD, List.getD_eq_getElem?_getD, List.getElem?_take, if_pos (by omega)]
  rw [this]
  exact hc j (by omega)
theorem at_take_mem {c h x : Int} {ls : List Ly} (e : errN ⟨c, h, x, ls⟩ = 0) {kk : Nat} (hk : kk ≤ ls.length) {v : Int} (hv : v ∈ stagesN ⟨c, h, x, ls.take kk⟩) : atN ⟨c, h, x, ls.take kk⟩ v = atN ⟨c, h, x, ls⟩ v := by
  rw [show stagesN ⟨c, h, x, ls.take kk⟩ = stK (ls.take kk) (ls.take kk).length from if_pos (cut_ok kk e)] at hv
  obtain ⟨i, hi, rfl, _⟩ := stK_mem _ _ _ hv
  rw [List.length_take] at hi
  exact at_take e (by omega) hk
theorem range_take {c h x : Int} {ls : List Ly} (e : errN ⟨c, h, x, ls⟩ = 0) {kk : Nat} (hk : kk ≤ ls.length) {i : Nat} (hi : i < (stagesN ⟨c, h, x, ls.take kk⟩).length) : rangeN ⟨c, h, x, ls.take kk⟩ (i : Nat) = rangeN ⟨c, h, x, ls⟩ (i : Nat) := by
  obtain ⟨r, hr⟩ := stages_take e hk
  have hi2 : i < (stagesN ⟨c, h, x, ls⟩).length := by rw [hr, List.length_append]; omega
  rw [range_yes hi, range_yes hi2, hr, List.take_append_of_le_length (by omega)]
  have e1 : ((stagesN ⟨c, h, x, ls.take kk⟩).take i).map (atN ⟨c, h, x, ls.take kk⟩) = ((stagesN ⟨c, h, x, ls.take kk⟩).take i).map (atN ⟨c, h, x, ls⟩) := List.map_congr_left fun v hv => at_take_mem e hk (List.mem_of_mem_take hv)
  have e2 : (stagesN ⟨c, h, x, ls.take kk⟩ ++ r).getD i 0 = (stagesN ⟨c, h, x, ls.take kk⟩).getD i 0 := by rw [List.getD_eq_getElem?_getD, List.getD_eq_getElem?_getD, List.getElem?_append_left hi]
  rw [e1, e2, at_take_mem e hk (List.mem_of_getElem? (st_get hi))]
theorem total_take {c h x : Int} {ls : List Ly} (e : errN ⟨c, h, x, ls⟩ = 0) {kk : Nat} (hk : kk ≤ ls.length) : (gatesN ⟨c, h, x, ls.take kk⟩).length ≤ (gatesN ⟨c, h, x, ls⟩).length := by
  by_cases z : (gatesN ⟨c, h, x, ls.take kk⟩).length = 0
  · omega
  · have := gates_take e hk (gt_get (show (gatesN ⟨c, h, x, ls.take kk⟩).length - 1 < (gatesN ⟨c, h, x, ls.take kk⟩).length by omega))
    have := (List.getElem?_eq_some_iff.1 this).1
    omega
theorem gate_take {c h x : Int} {ls : List Ly} (e : errN ⟨c, h, x, ls⟩ = 0) {kk : Nat} (hk : kk ≤ ls.length) {g : Int} (hg : hasG ⟨c, h, x, ls.take kk⟩ g = true) : hasG ⟨c, h, x, ls⟩ g = true ∧ gateN ⟨c, h, x, ls⟩ g = gateN ⟨c, h, x, ls.take kk⟩ g := by
  obtain ⟨h0, h1⟩ := of_decide_eq_true hg
  obtain ⟨j, rfl⟩ : ∃ j : Nat, g = j := ⟨g.toNat, by omega⟩
  have q := gt_get (show j < (gatesN ⟨c, h, x, ls.take kk⟩).length by omega)
  obtain ⟨a1, a2⟩ := gate_some q
  obtain ⟨b1, b2⟩ := gate_some (gates_take e hk q)
  exact ⟨b2, by rw [a1, b1]⟩

set_option maxHeartbeats 8000000 in
set_option maxRecDepth 100000 in
theorem law_gahead (c h x : Int) (A : Option Addr) (cA n : Nat) (ls : List Ly) (a g : Int) (w : World) (hx : Rl w A ls) (ln : n = ls.length) (hcap : n ≤ cA) (_hmax : cA ≤ maxLen) (ba : 0 ≤ a ∧ a ≤ 255) :
    Calls Try.prog 10 #[.agg #[.int .i64 c, .int .i64 h, .int .i64 x, .slice A n cA], .int .u8 a, .int .i64 g] w fun e w' => e = .returned (.bool true) ∧ Below w.heap.size w w' := by
  have HX := Lib.hid hx; have LX := Lib.hid ln
  clear hx ln
  clear _hmax
  obtain ⟨ba0, ba1⟩ := ba
  go_enter Try.func10, Try.ntmps10
  go_wp2_with fail
  refine (head8_any _).mono ?_
  rintro e w1 ⟨rfl, hb⟩
  have B1 := Lib.hid (chain ((Below.refl w.heap.size w).alloc (Nat.le_refl _) _) hb)
  have N1 := Lib.hid ((NB.new w c h x (.slice A n cA)).below hb)
  clear hb
  have lN := N1.out.lt
  obtain ⟨c0, c1, c2, c3⟩ := N1.out.cells
  by_cases hg : 60 < n
  · have d : decide (60 < (n : Int)) = true := by simp; omega
    go_wp2_with fail
    refine (great_any c h x A cA n _ true d).mono ?_
    rintro e w2 ⟨rfl, hb⟩
    have B2 := Lib.hid (chain B1.out hb)
    have N2 := Lib.hid (N1.out.below hb)
    clear hb c0 c1 c2 c3 lN B1 N1
    have lN := N2.out.lt
    obtain ⟨c0, c1, c2, c3⟩ := N2.out.cells
    clear hg d
    go_wp2_with fail
    go_ret
    exact ⟨rfl, B2.out⟩
  have d : decide (60 < (n : Int)) = false := by simp; omega
  have hn : n ≤ 60 := by omega
  have hn1 : n ≤ 1000 := by omega
  have l60 : ls.length ≤ 60 := by rw [← LX.out]; exact hn
  go_wp2_with fail
  refine (great_any c h x A cA n _ false d).mono ?_
  rintro e w2 ⟨rfl, hb⟩
  have B2 := Lib.hid (chain B1.out hb)
  have N2 := Lib.hid (N1.out.below hb)
  clear hb c0 c1 c2 c3 lN B1 N1
  have lN := N2.out.lt
  obtain ⟨c0, c1, c2, c3⟩ := N2.out.cells
  clear hg d
  obtain ⟨er, her⟩ : ∃ er, er = errN ⟨c, h, x, ls⟩ := ⟨_, rfl⟩
  have HER := Lib.hid her
  clear her
  go_wp2_with fail
  refine (rright_of c h x A cA n ls _ (HX.out.below B2.out) LX.out hn1).mono ?_
  rintro e w3 ⟨rfl, hb⟩
  rw [← HER.out]
  have B3 := Lib.hid (chain B2.out hb)
  have N3 := Lib.hid (N2.out.below hb)
  clear hb c0 c1 c2 c3 lN B2 N2
  have lN := N3.out.lt
  obtain ⟨c0, c1, c2, c3⟩ := N3.out.cells
  by_cases h0 : ¬ er = 0
  · have b0 : (er == 0) = false := by simpa using h0
    clear h0
    go_wp2_with fail
    go_ret
    exact ⟨rfl, B3.out⟩
  have h0 : er = 0 := Decidable.not_not.1 h0
  have b0 : (er == 0) = true := by rw [h0]; rfl
  have HE : Hid (errN ⟨c, h, x, ls⟩ = 0) := HER.out.symm.trans h0
  clear h0
  have n0 : ¬ (n : Int) + 1 = 0 := by omega
  obtain ⟨kk, hkk⟩ : ∃ kk : Nat, a % ((n : Int) + 1) = (kk : Int) := ⟨(a % ((n : Int) + 1)).toNat, by have := Int.emod_nonneg a n0; omega⟩
  have kn : kk ≤ n := by have := Int.emod_lt_of_pos a (show 0 < (n : Int) + 1 by omega); omega
  have hk2 : a.tmod ((n : Int) + 1) = (kk : Int) := by rw [Int.tmod_eq_emod_of_nonneg ba0]; exact hkk
  have KN : Hid (kk ≤ ls.length) := by rw [← LX.out]; exact kn
  have LK : Hid (kk = (ls.take kk).length) := by show _ = _; rw [List.length_take, Nat.min_eq_left KN.out]
  have k60 : kk ≤ 60 := by omega
  have EM : Hid (errN ⟨c, h, x, ls.take kk⟩ = 0) := cut_ok kk HE.out
  obtain ⟨G1, hG1⟩ : ∃ G, gateN ⟨c, h, x, ls.take kk⟩ g = G := ⟨_, rfl⟩
  obtain ⟨r1, hr1⟩ : ∃ r, hasG ⟨c, h, x, ls.take kk⟩ g = r := ⟨_, rfl⟩
  obtain ⟨G2, hG2⟩ : ∃ G, gateN ⟨c, h, x, ls⟩ g = G := ⟨_, rfl⟩
  obtain ⟨r2, hr2⟩ : ∃ r, hasG ⟨c, h, x, ls⟩ g = r := ⟨_, rfl⟩
  obtain ⟨t, ht⟩ : ∃ t : Nat, t = (gatesN ⟨c, h, x, ls.take kk⟩).length := ⟨_, rfl⟩
  obtain ⟨T, hT⟩ : ∃ T : Nat, T = (gatesN ⟨c, h, x, ls⟩).length := ⟨_, rfl⟩
  obtain ⟨st, hst⟩ : ∃ st, stagesN ⟨c, h, x, ls.take kk⟩ = st := ⟨_, rfl⟩
  have tT : t ≤ T := by rw [ht, hT]; exact total_take HE.out KN.out
  have FY : Hid (r1 = true → r2 = true ∧ G2 = G1) := fun z => by
    obtain ⟨z1, z2⟩ := gate_take HE.out KN.out (hr1.trans z)
    exact ⟨hr2.symm.trans z1, by rw [← hG2, ← hG1]; exact z2⟩
  have FN : Hid (r1 = false → g < 0 ∨ (t : Int) ≤ g) := fun z => by
    have z1 := of_decide_eq_false (hr1.trans z)
    rw [← ht] at z1
    omega
  have T1 : Hid (totP (knN ⟨c, h, x, ls.take kk⟩) = (t : Int)) := by show _ = _; rw [ht]; exact gates_total.symm
  have T2 : Hid (totP (knN ⟨c, h, x, ls⟩) = (T : Int)) := by show _ = _; rw [hT]; exact gates_total.symm
  have HG1 := Lib.hid hG1; have HR1 := Lib.hid hr1; have HG2 := Lib.hid hG2; have HR2 := Lib.hid hr2; have HST := Lib.hid hst
  have sl : st.length ≤ 60 := by
    rw [← hst, show stagesN ⟨c, h, x, ls.take kk⟩ = stK (ls.take kk) (ls.take kk).length from if_pos EM.out]
    exact Nat.le_trans (stK_len _ _) (by rw [← LK.out]; exact k60)
  have SL := Lib.hid sl
  have hsl : ∀ wx, (Instr.slice 24 (.slice A n cA) none (some (.int .i64 (kk : Int))) none).run Try.prog wx = .ok (.slice A kk cA) wx := fun wx => by
    have : kk ≤ cA := by omega
    first | (go_simp; done) | (go_simp; intro hh; omega) | (rcases A with _ | A <;> go_simp <;> (try intro hh) <;> omega)
  clear hG1 hr1 hG2 hr2 ht hT hst sl hkk
  go_wp2_with fail
  go_region
  obtain ⟨w4, hV⟩ : ∃ V, V = (w3.alloc (.cells #[.int .i64 c, .int .i64 h, .int .i64 x, .slice A kk cA] 26)).drew := ⟨_, rfl⟩
  have hb : Below w3.heap.size w3 w4 := by rw [hV]; exact ((Below.refl _ w3).alloc (Nat.le_refl _) _).drew
  have MM : Hid (NB w4 w3.heap.size c h x (.slice A kk cA)) := by rw [hV]; exact (NB.new w3 c h x (.slice A kk cA)).drew
  rw [← hV]
  clear hV hsl
  have B4 := Lib.hid (chain B3.out hb)
  have N4 := Lib.hid (N3.out.below hb)
  clear hb c0 c1 c2 c3 lN B3 N3
  have lN := N4.out.lt
  obtain ⟨c0, c1, c2, c3⟩ := N4.out.cells
  obtain ⟨mb, hmb⟩ : ∃ mb, mb = w3.heap.size := ⟨_, rfl⟩
  rw [← hmb] at MM ⊢
  clear hmb
  have lM := MM.out.lt
  obtain ⟨d0, d1, d2, d3⟩ := MM.out.cells
  go_wp2_with fail
  refine (gtotal_is c h x A cA kk (ls.take kk) (t : Int) T1.out _ (ah_take (HX.out.below B4.out) kk) LK.out k60).mono ?_
  rintro e w5 ⟨rfl, hb⟩
  have B5 := Lib.hid (chain B4.out hb)
  have N5 := Lib.hid (N4.out.below hb)
  have MM := Lib.hid (MM.out.below hb)
  clear hb c0 c1 c2 c3 lN B4 N4 d0 d1 d2 d3 lM
  have lN := N5.out.lt
  obtain ⟨c0, c1, c2, c3⟩ := N5.out.cells
  have lM := MM.out.lt
  obtain ⟨d0, d1, d2, d3⟩ := MM.out.cells
  go_wp2_with fail
  refine (ggate_is c h x A cA kk (ls.take kk) g G1 r1 HG1.out HR1.out _ (ah_take (HX.out.below B5.out) kk) LK.out k60).mono ?_
  rintro e w6 ⟨rfl, hb⟩
  have B6 := Lib.hid (chain B5.out hb)
  have N6 := Lib.hid (N5.out.below hb)
  have MM := Lib.hid (MM.out.below hb)
  clear hb c0 c1 c2 c3 lN B5 N5 d0 d1 d2 d3 lM
  have lN := N6.out.lt
  obtain ⟨c0, c1, c2, c3⟩ := N6.out.cells
  have lM := MM.out.lt
  obtain ⟨d0, d1, d2, d3⟩ := MM.out.cells
  go_wp2_with fail
  obtain ⟨w7, hV⟩ : ∃ V, V = w6.alloc (.cells #[.int .i64 G1.l, .int .i64 G1.a, .int .i64 G1.t, .int .i64 G1.x, .int .i64 G1.w] 54) := ⟨_, rfl⟩
  have hb : Below w6.heap.size w6 w7 := by rw [hV]; exact (Below.refl _ w6).alloc (Nat.le_refl _) _
  have Q1 : Hid (GB w7 w6.heap.size G1) := by rw [hV]; exact heap_alloc_new w6 _
  rw [← hV]
  clear hV
  have B7 := Lib.hid (chain B6.out hb)
  have N7 := Lib.hid (N6.out.below hb)
  have MM := Lib.hid (MM.out.below hb)
  clear hb c0 c1 c2 c3 lN B6 N6 d0 d1 d2 d3 lM
  have lN := N7.out.lt
  obtain ⟨c0, c1, c2, c3⟩ := N7.out.cells
  have lM := MM.out.lt
  obtain ⟨d0, d1, d2, d3⟩ := MM.out.cells
  obtain ⟨qa, hqa⟩ : ∃ q, q = w6.heap.size := ⟨_, rfl⟩
  rw [← hqa] at Q1 ⊢
  clear hqa
  refine (ggate_is c h x A cA n ls g G2 r2 HG2.out HR2.out _ (HX.out.below B7.out) LX.out hn).mono ?_
  rintro e w8 ⟨rfl, hb⟩
  have B8 := Lib.hid (chain B7.out hb)
  have N8 := Lib.hid (N7.out.below hb)
  have MM := Lib.hid (MM.out.below hb)
  have Q1 := Lib.hid (Q1.out.below hb)
  clear hb c0 c1 c2 c3 lN B7 N7 d0 d1 d2 d3 lM
  have lN := N8.out.lt
  obtain ⟨c0, c1, c2, c3⟩ := N8.out.cells
  have lM := MM.out.lt
  obtain ⟨d0, d1, d2, d3⟩ := MM.out.cells
  go_wp2_with fail
  obtain ⟨w9, hV⟩ : ∃ V, V = w8.alloc (.cells #[.int .i64 G2.l, .int .i64 G2.a, .int .i64 G2.t, .int .i64 G2.x, .int .i64 G2.w] 54) := ⟨_, rfl⟩
  have hb : Below w8.heap.size w8 w9 := by rw [hV]; exact (Below.refl _ w8).alloc (Nat.le_refl _) _
  have Q2 : Hid (GB w9 w8.heap.size G2) := by rw [hV]; exact heap_alloc_new w8 _
  rw [← hV]
  clear hV
  have B9 := Lib.hid (chain B8.out hb)
  have N9 := Lib.hid (N8.out.below hb)
  have MM := Lib.hid (MM.out.below hb)
  have Q1 := Lib.hid (Q1.out.below hb)
  clear hb c0 c1 c2 c3 lN B8 N8 d0 d1 d2 d3 lM
  have lN := N9.out.lt
  obtain ⟨c0, c1, c2, c3⟩ := N9.out.cells
  have lM := MM.out.lt
  obtain ⟨d0, d1, d2, d3⟩ := MM.out.cells
  obtain ⟨qb, hqb⟩ : ∃ q, q = w8.heap.size := ⟨_, rfl⟩
  rw [← hqb] at Q2 ⊢
  clear hqb
  obtain ⟨m1, hm1⟩ : ∃ m1, m1 = st.length := ⟨_, rfl⟩
  have M1 := Lib.hid hm1
  have m6 : m1 ≤ 60 := by rw [hm1]; exact SL.out
  clear hm1
  go_loopg [15] m1 (fun gh s15 wx => ∃ k : Nat, k ≤ m1 ∧ Hid (gh = m1 - k) ∧ s15 = .int .i64 (k : Int) ∧ Hid (Below w.heap.size w wx) ∧ Hid (NB wx w.heap.size c h x (.slice A n cA)) ∧ Hid (NB wx mb c h x (.slice A kk cA)) ∧ Hid (GB wx qa G1) ∧ Hid (GB wx qb G2))
  case atStart => exact ⟨0, Nat.zero_le _, by show _ = _; omega, rfl, B9, N9, MM, Q1, Q2⟩
  case round =>
    clear c0 c1 c2 c3 lN d0 d1 d2 d3 lM B9 N9 MM Q1 Q2
    obtain ⟨k, hk, HGH, rfl, B10, N10, MM, Q1, Q2⟩ := hrel
    have lN := N10.out.lt
    obtain ⟨c0, c1, c2, c3⟩ := N10.out.cells
    have lM := MM.out.lt
    obtain ⟨d0, d1, d2, d3⟩ := MM.out.cells
    go_wp2_with fail
    refine (gstages_is c h x A cA kk (ls.take kk) st HST.out _ (ah_take (HX.out.below B10.out) kk) LK.out k60).mono ?_
    rintro e w11 ⟨A1, k1, n1, rfl, hn2, hR2, hb, hd1, hd2⟩
    obtain rfl : n1 = m1 := hn2.trans M1.out.symm
    clear hR2 hd1 hd2 hn2
    have B11 := Lib.hid (chain B10.out hb)
    have N11 := Lib.hid (N10.out.below hb)
    have MM := Lib.hid (MM.out.below hb)
    have Q1 := Lib.hid (Q1.out.below hb)
    have Q2 := Lib.hid (Q2.out.below hb)
    clear hb c0 c1 c2 c3 lN B10 N10 d0 d1 d2 d3 lM
    have lN := N11.out.lt
    obtain ⟨c0, c1, c2, c3⟩ := N11.out.cells
    have lM := MM.out.lt
    obtain ⟨d0, d1, d2, d3⟩ := MM.out.cells
    by_cases km : k < n1
    · have ki : (k : Int) < (n1 : Int) := by omega
      obtain ⟨ra, rb, hr⟩ : ∃ ra rb, rangeN ⟨c, h, x, ls.take kk⟩ (k : Int) = (ra, rb) := ⟨_, _, rfl⟩
      have R1 := Lib.hid hr
      have R2 : Hid (rangeN ⟨c, h, x, ls⟩ (k : Int) = (ra, rb)) := (range_take HE.out KN.out (by rw [HST.out, ← M1.out]; exact km)).symm.trans hr
      have K1 : Hid (k < n1) := km
      clear hr km
      go_wp2_with fail
      refine (grange8 c h x A cA kk (ls.take kk) (k : Int) ra rb R1.out _ (ah_take (HX.out.below B11.out) kk) LK.out k60).mono ?_
      rintro e w12 ⟨rfl, hb⟩
      have B12 := Lib.hid (chain B11.out hb)
      have N12 := Lib.hid (N11.out.below hb)
      have MM := Lib.hid (MM.out.below hb)
      have Q1 := Lib.hid (Q1.out.below hb)
      have Q2 := Lib.hid (Q2.out.below hb)
      clear hb c0 c1 c2 c3 lN B11 N11 d0 d1 d2 d3 lM
      have lN := N12.out.lt
      obtain ⟨c0, c1, c2, c3⟩ := N12.out.cells
      have lM := MM.out.lt
      obtain ⟨d0, d1, d2, d3⟩ := MM.out.cells
      go_wp2_with fail
      refine (grange8 c h x A cA n ls (k : Int) ra rb R2.out _ (HX.out.below B12.out) LX.out hn).mono ?_
      rintro e w13 ⟨rfl, hb⟩
      have B13 := Lib.hid (chain B12.out hb)
      have N13 := Lib.hid (N12.out.below hb)
      have MM := Lib.hid (MM.out.below hb)
      have Q1 := Lib.hid (Q1.out.below hb)
      have Q2 := Lib.hid (Q2.out.below hb)
      clear hb c0 c1 c2 c3 lN B12 N12 d0 d1 d2 d3 lM
      have lN := N13.out.lt
      obtain ⟨c0, c1, c2, c3⟩ := N13.out.cells
      have lM := MM.out.lt
      obtain ⟨d0, d1, d2, d3⟩ := MM.out.cells
      go_wp2_with fail
      go_roundg (n1 - (k + 1))
      case measure => have := HGH.out; have := K1.out; omega
      case rel => exact ⟨k + 1, by have := K1.out; omega, rfl, by go_num, B13, N13, MM, Q1, Q2⟩
    · obtain rfl : k = n1 := by omega
      have d : decide ((t : Int) ≤ (T : Int)) = true := decide_eq_true (by omega)
      have dn : decide (t ≤ T) = true := decide_eq_true tT
      go_wp2_with fail
      refine (gtotal_is c h x A cA n ls (T : Int) T2.out _ (HX.out.below B11.out) LX.out hn).mono ?_
      rintro e w12 ⟨rfl, hb⟩
      have B12 := Lib.hid (chain B11.out hb)
      have N12 := Lib.hid (N11.out.below hb)
      have MM := Lib.hid (MM.out.below hb)
      have Q1 := Lib.hid (Q1.out.below hb)
      have Q2 := Lib.hid (Q2.out.below hb)
      clear hb c0 c1 c2 c3 lN B11 N11 d0 d1 d2 d3 lM
      have lN := N12.out.lt
      obtain ⟨c0, c1, c2, c3⟩ := N12.out.cells
      have lM := MM.out.lt
      obtain ⟨d0, d1, d2, d3⟩ := MM.out.cells
      cases r1
      · have fn := FN.out rfl
        by_cases g0 : g < 0
        · have e1 : decide (g < 0) = true := decide_eq_true g0
          clear g0 fn
          go_wp2_with fail
          go_ret
          exact ⟨rfl, B12.out⟩
        · have e1 : decide (g < 0) = false := decide_eq_false g0
          have e2 : decide ((t : Int) ≤ g) = true := decide_eq_true (by omega)
          clear g0 fn
          go_wp2_with fail
          go_ret
          exact ⟨rfl, B12.out⟩
      · obtain ⟨y1, y2⟩ := FY.out rfl
        subst y1 y2
        have eq1 := gate_eq G2.l G2.a G2.t G2.x G2.w
        obtain ⟨x0, x1, x2, x3, x4⟩ := Q1.out.cells
        obtain ⟨z0, z1, z2, z3, z4⟩ := Q2.out.cells
        go_wp2_with fail
        go_ret
        exact ⟨rfl, B12.out⟩

end Go.Proofs.Ytnfmpladdfgadaa
