/-
  GatesTerms: what a gate multiplies is its term; there are just as many gates of a place as it has terms.
-/
import Derived.Test.YtnfmpladdfgadaaGHead
import Derived.Test.YtnfmpladdfgadaaRTerms
import Derived.Test.YtnfmpladdfgadaaRefA
import Derived.Deep.LoopGhost
import Derived.Deep.RegionHeld3
namespace Go.Proofs.Ytnfmpladdfgadaa
open Go.RowKit

/-- A layer with terms is a stage. -/
theorem isS_terms {c h x : Int} {ls : List Ly} (e : errN ⟨c, h, x, ls⟩ = 0) {k : Nat} (hk : k < ls.length) {p : Int} (ht : 0 < (termsN ⟨c, h, x, ls⟩ (k : Nat) p).length) : isS ⟨c, h, x, ls⟩ k := by
  have g := good_i e hk
  by_cases hp : hasK (atN ⟨c, h, x, ls⟩ (k : Nat)) p = true
  · rw [termsN_is hp] at ht
    have tl := terms_len g p
    have u := size_pos g.ur
    refine ⟨hk, fun z => ?_⟩
    have pa := per_all g
    rw [z] at pa
    have := Int.mul_pos (show 0 < (atN ⟨c, h, x, ls⟩ (k : Nat)).u.n by omega) (show 0 < perK (atN ⟨c, h, x, ls⟩ (k : Nat)) by omega)
    omega
  · rw [show termsN ⟨c, h, x, ls⟩ (k : Nat) p = [] from if_neg hp] at ht
    simp at ht
theorem index_beyond {c h x : Int} {ls : List Ly} (k p : Int) (t : Int) (ht : t < 0 ∨ ((termsN ⟨c, h, x, ls⟩ k p).length : Int) ≤ t) : indexN ⟨c, h, x, ls⟩ k p t = -1 :=
  index_miss fun y _ e j hj z => by rw [e] at hj; omega
/-- What is told of the term j of a layer's place. -/
theorem term_j {c h x : Int} {ls : List Ly} (e : errN ⟨c, h, x, ls⟩ = 0) (hn : ls.length ≤ 60) {k : Nat} (hk : k < ls.length) {p : Int} {j : Nat} {t : Tm} (ht : (termsN ⟨c, h, x, ls⟩ (k : Nat) p)[j]? = some t) :
    ∃ b : Int, (∀ i : Nat, i < (termsN ⟨c, h, x, ls⟩ (k : Nat) p).length → indexN ⟨c, h, x, ls⟩ (k : Nat) p (i : Nat) = b + (i : Nat)) ∧ 0 ≤ b ∧ b + (j : Nat) ≤ 512 ∧ hasG ⟨c, h, x, ls⟩ (b + (j : Nat)) = true ∧ gateN ⟨c, h, x, ls⟩ (b + (j : Nat)) = ⟨(k : Nat), p, (j : Nat), t.x, t.w⟩ := by
  have hl := (List.getElem?_eq_some_iff.1 ht).1
  obtain ⟨y, hy⟩ : ∃ y : St ⟨c, h, x, ls⟩, y.1 = k := ⟨⟨k, isS_terms e hk (p := p) (by omega)⟩, rfl⟩
  rw [← hy] at ht hl ⊢
  obtain ⟨g, g1, g2⟩ := gate_st y ht
  obtain ⟨h1, h2⟩ := gate_of y ht rfl
  have gl := (List.getElem?_eq_some_iff.1 g2).1
  have bd := gates_bd (c := c) (h := h) (x := x) (ls := ls)
  obtain ⟨_, f2, _, _, f5, _, _⟩ := st_facts hn y
  obtain ⟨q, rfl, _, _⟩ := terms_at y ht
  have := Int.mul_nonneg (show 0 ≤ ((q : Nat) : Int) by omega) (show 0 ≤ eachS ⟨c, h, x, ls⟩ y.1 by omega)
  refine ⟨firstS ⟨c, h, x, ls⟩ y.1 + ((q : Nat) : Int) * eachS ⟨c, h, x, ls⟩ y.1, fun i hi => index_st y (List.getElem?_eq_getElem hi), by omega, by omega, h2, h1⟩

set_option maxHeartbeats 16000000 in
set_option maxRecDepth 100000 in
theorem law_gterms (c h x : Int) (A : Option Addr) (cA n : Nat) (ls : List Ly) (a b : Int) (w : World) (hx : Rl w A ls) (ln : n = ls.length) (ba : 0 ≤ a ∧ a ≤ 255) (bb : 0 ≤ b ∧ b ≤ 255) :
    Calls Try.prog 8 #[.agg #[.int .i64 c, .int .i64 h, .int .i64 x, .slice A n cA], .int .u8 a, .int .u8 b] w fun e w' => e = .returned (.bool true) ∧ Below w.heap.size w w' := by
  have HX := Lib.hid hx; have LX := Lib.hid ln
  clear hx ln
  obtain ⟨ba0, ba1⟩ := ba
  obtain ⟨bb0, bb1⟩ := bb
  obtain ⟨kk, hkk⟩ : ∃ kk : Nat, a % 8 = kk := ⟨(a % 8).toNat, by omega⟩
  go_enter Try.func8, Try.ntmps8
  go_wp2_with fail
  refine (head8_any _).mono ?_
  rintro e w1 ⟨rfl, hb⟩
  have B1 := Lib.hid (chain ((Below.refl w.heap.size w).alloc (Nat.le_refl _) _) hb)
  have N1 := Lib.hid ((NB.new w c h x (.slice A n cA)).below hb)
  clear hb
  have lN := N1.out.lt
  obtain ⟨c0, c1, c2, c3⟩ := N1.out.cells
  by_cases hg : 60 < n
  · have d : decide (60 < (n : Int)) = true := by simp; omega
    go_wp2_with fail
    refine (great_any c h x A cA n _ true d).mono ?_
    rintro e w2 ⟨rfl, hb⟩
    have B2 := Lib.hid (chain B1.out hb)
    have N2 := Lib.hid (N1.out.below hb)
    clear hb c0 c1 c2 c3 lN B1 N1
    have lN := N2.out.lt
    obtain ⟨c0, c1, c2, c3⟩ := N2.out.cells
    clear hg d
    go_wp2_with fail
    go_ret
    exact ⟨rfl, B2.out⟩
  have d : decide (60 < (n : Int)) = false := by simp; omega
  have hn : n ≤ 60 := by omega
  have hn1 : n ≤ 1000 := by omega
  have l60 : ls.length ≤ 60 := by rw [← LX.out]; exact hn
  go_wp2_with fail
  refine (great_any c h x A cA n _ false d).mono ?_
  rintro e w2 ⟨rfl, hb⟩
  have B2 := Lib.hid (chain B1.out hb)
  have N2 := Lib.hid (N1.out.below hb)
  clear hb c0 c1 c2 c3 lN B1 N1
  have lN := N2.out.lt
  obtain ⟨c0, c1, c2, c3⟩ := N2.out.cells
  clear hg d
  obtain ⟨er, her⟩ : ∃ er, er = errN ⟨c, h, x, ls⟩ := ⟨_, rfl⟩
  have HER := Lib.hid her
  clear her
  go_wp2_with fail
  refine (rright_of c h x A cA n ls _ (HX.out.below B2.out) LX.out hn1).mono ?_
  rintro e w3 ⟨rfl, hb⟩
  rw [← HER.out]
  have B3 := Lib.hid (chain B2.out hb)
  have N3 := Lib.hid (N2.out.below hb)
  clear hb c0 c1 c2 c3 lN B2 N2
  have lN := N3.out.lt
  obtain ⟨c0, c1, c2, c3⟩ := N3.out.cells
  by_cases h0 : ¬ er = 0
  · have b0 : (er == 0) = false := by simpa using h0
    clear h0
    go_wp2_with fail
    go_ret
    exact ⟨rfl, B3.out⟩
  have h0 : er = 0 := Decidable.not_not.1 h0
  have b0 : (er == 0) = true := by rw [h0]; rfl
  have HE : Hid (errN ⟨c, h, x, ls⟩ = 0) := HER.out.symm.trans h0
  clear h0
  by_cases kn : n ≤ kk
  · have d1 : decide ((n : Int) ≤ (kk : Int)) = true := decide_eq_true (by omega)
    have d2 : decide (n ≤ kk) = true := decide_eq_true kn
    clear kn
    go_wp2_with fail
    go_ret
    exact ⟨rfl, B3.out⟩
  have d1 : decide ((n : Int) ≤ (kk : Int)) = false := decide_eq_false (by omega)
  have d2 : decide (n ≤ kk) = false := decide_eq_false kn
  have kl : kk < ls.length := by rw [← LX.out]; omega
  have GD := good_i HE.out kl
  obtain ⟨S, hS⟩ : ∃ S, S = (atN ⟨c, h, x, ls⟩ (kk : Nat)).u := ⟨_, rfl⟩
  have sn : 1 ≤ S.n := by rw [hS]; exact size_pos GD.ur
  have sn2 := (size_bd S).2
  have tz : ¬ S.n = 0 := by omega
  obtain ⟨p, hp⟩ : ∃ p : Nat, b % S.n = (p : Int) := ⟨(b % S.n).toNat, by have := Int.emod_nonneg b tz; omega⟩
  have pb : b.tmod S.n = (p : Int) := by rw [Int.tmod_eq_emod_of_nonneg bb0]; exact hp
  have p1 : p ≤ 128 := by have := Int.emod_lt_of_pos b (show 0 < S.n by omega); omega
  have HS := Lib.hid hS; have KL := Lib.hid kl
  obtain ⟨ts, hts⟩ : ∃ ts, ts = termsN ⟨c, h, x, ls⟩ (kk : Nat) (p : Int) := ⟨_, rfl⟩
  have tl : ts.length ≤ 1152 := by
    rw [hts]
    by_cases q : hasK (atN ⟨c, h, x, ls⟩ (kk : Nat)) (p : Int) = true
    · rw [termsN_is q]
      have := terms_len GD (p : Int)
      have := per_bd GD
      omega
    · rw [show termsN ⟨c, h, x, ls⟩ (kk : Nat) (p : Int) = [] from if_neg q]; simp
  have HTS := Lib.hid hts
  obtain ⟨m, hm⟩ : ∃ m, m = kk + 1 := ⟨_, rfl⟩
  have HM := Lib.hid hm
  have ma : (0 : Int) ≤ (m : Int) := by omega
  have mn : m ≤ n := by omega
  have V1 : Hid (IntKind.i64.wrap ((kk : Int) + 1) = (m : Int)) := by show _ = _; rw [IntWalk.i64_in _ (by omega)]; omega
  have V2 : Hid (wrap64 ((kk : Int) + 1) = (m : Int)) := by show _ = _; rw [IntWalk.wrap64_in _ (by omega)]; omega
  clear kn kl GD hS hp hts hm
  go_wp2_with fail
  refine (rshapes_any c h x A cA n ls _ (HX.out.below B3.out) LX.out hn1).mono ?_
  rintro e w4 ⟨A2, k2, n2, rfl, hn2, hR2, hb, hd1, hd2⟩
  rw [HE.out]
  have P2 := Lib.hid hR2; have M2 := Lib.hid hn2
  clear hR2 hn2 hd1 hd2
  have B4 := Lib.hid (chain B3.out hb)
  have N4 := Lib.hid (N3.out.below hb)
  clear hb c0 c1 c2 c3 lN B3 N3
  have lN := N4.out.lt
  obtain ⟨c0, c1, c2, c3⟩ := N4.out.cells
  have hR := P2.out
  have hl1 := M2.out
  rw [shN_ok HE.out] at hR hl1
  rw [sh_len, ← LX.out] at hl1
  obtain ⟨bS, oS, rfl, lS, qS⟩ := hR (by rw [sh_len]; omega)
  have gT : (shL ⟨c, h, x⟩ ls)[m]? = some S := by
    have hl := get_ly KL.out
    have hK : (knL ⟨c, h, x⟩ 0 ls)[kk]? = some (atN ⟨c, h, x, ls⟩ (kk : Nat)) := by
      rw [at_some HE.out hl]
      have := kn_get ls ⟨c, h, x⟩ 0 kk _ hl
      rw [Int.zero_add] at this
      exact this
    rw [HM.out, sh_kn ls _ 0, List.getElem?_cons_succ, List.getElem?_map, hK, HS.out]; rfl
  obtain ⟨t0, t1, t2⟩ := sh_at qS gT
  have mi : (m : Int) < (n2 : Int) := by omega
  have mj : m < n2 := by omega
  have PS : Hid (∀ w, Calls Try.prog 52 #[.agg #[.int .i64 S.c, .int .i64 S.h, .int .i64 S.x]] w fun e w' => e = .returned (.int .i64 S.n) ∧ Below w.heap.size w w') := fun w => rsize_any _ _ _ w
  have v1 := V1.out; have v2 := V2.out
  clear hR hl1 qS gT
  go_wp2_with fail
  refine (PS.out _).mono ?_
  rintro e w5 ⟨rfl, hb⟩
  have B5 := Lib.hid (chain B4.out hb)
  have N5 := Lib.hid (N4.out.below hb)
  clear hb c0 c1 c2 c3 lN B4 N4
  have lN := N5.out.lt
  obtain ⟨c0, c1, c2, c3⟩ := N5.out.cells
  clear t0 t1 t2 v1 v2 mi mj ma
  go_wp2_with fail
  refine (rterms_any c h x A cA n ls (kk : Int) (p : Int) _ (HX.out.below B5.out) LX.out hn1).mono ?_
  rintro e w6 ⟨A1, k1, n1, rfl, hn2, hR2, hb, hd1, hd2⟩
  rw [← HTS.out] at hR2 hn2
  have P1 := Lib.hid hR2; have M1 := Lib.hid hn2
  have n1b : n1 ≤ 1152 := by omega
  clear hR2 hn2 hd1 hd2 tl
  have B6 := Lib.hid (chain B5.out hb)
  have N6 := Lib.hid (N5.out.below hb)
  clear hb c0 c1 c2 c3 lN B5 N5
  have lN := N6.out.lt
  obtain ⟨c0, c1, c2, c3⟩ := N6.out.cells
  go_wp2_with fail
  go_loopg [13] n1 (fun gh s13 wx => ∃ k : Nat, k ≤ n1 ∧ Hid (gh = n1 - k) ∧ s13 = .int .i64 (k : Int) ∧ Hid (Below w.heap.size w wx) ∧ Hid (NB wx w.heap.size c h x (.slice A n cA)) ∧ Hid (Rg tcells wx A1 ts))
  case atStart => exact ⟨0, Nat.zero_le _, by show _ = _; omega, rfl, B6, N6, P1⟩
  case round =>
    clear c0 c1 c2 c3 lN B6 N6 P1
    obtain ⟨k, hk, HGH, rfl, B7, N7, P1⟩ := hrel
    have lN := N7.out.lt
    obtain ⟨c0, c1, c2, c3⟩ := N7.out.cells
    by_cases kn : k < n1
    · have ki : (k : Int) < (n1 : Int) := by omega
      have ka : (0 : Int) ≤ (k : Int) := by omega
      obtain ⟨t, ht⟩ : ∃ t, ts[k]? = some t := ⟨_, List.getElem?_eq_getElem (by rw [← M1.out]; exact kn)⟩
      obtain ⟨b0', hb1, hb2, hb3, hb4, hb5⟩ := term_j HE.out l60 KL.out (p := (p : Int)) (j := k) (t := t) (by rw [← HTS.out]; exact ht)
      obtain ⟨g, hg⟩ : ∃ g, g = b0' + (k : Nat) := ⟨_, rfl⟩
      obtain ⟨G, hG⟩ : ∃ G, gateN ⟨c, h, x, ls⟩ g = G := ⟨_, rfl⟩
      have HIX : Hid (indexN ⟨c, h, x, ls⟩ (kk : Int) (p : Int) (k : Int) = g) := by rw [hg]; exact hb1 k (by rw [← HTS.out, ← M1.out]; exact kn)
      have HI0 : Hid (indexN ⟨c, h, x, ls⟩ (kk : Int) (p : Int) 0 = b0') := by
        have := hb1 0 (by rw [← HTS.out, ← M1.out]; omega)
        rw [show ((0 : Nat) : Int) = 0 from rfl, Int.add_zero] at this
        exact this
      have HHG : Hid (hasG ⟨c, h, x, ls⟩ g = true) := by rw [hg]; exact hb4
      have HGG := Lib.hid hG
      have G5 : G = ⟨(kk : Nat), (p : Int), (k : Nat), t.x, t.w⟩ := by rw [← hG, hg]; exact hb5
      have gx : (G.x != t.x) = false := by rw [G5]; simp
      have gw : (G.w != t.w) = false := by rw [G5]; simp
      have W1 : Hid (IntKind.i64.wrap (b0' + (k : Int)) = g) := by show _ = _; rw [IntWalk.i64_in _ (by omega)]; exact hg.symm
      have W2 : Hid (wrap64 (b0' + (k : Int)) = g) := by show _ = _; rw [IntWalk.wrap64_in _ (by omega)]; exact hg.symm
      have TK := Lib.hid ht; have K1 : Hid (k < n1) := kn
      clear ht hb1 hb2 hb3 hb4 hb5 hg hG G5
      go_wp2_with fail
      refine (gindex8 c h x A cA n ls (kk : Int) (p : Int) (k : Int) g HIX.out _ (HX.out.below B7.out) LX.out hn).mono ?_
      rintro e w8 ⟨rfl, hb⟩
      have B8 := Lib.hid (chain B7.out hb)
      have N8 := Lib.hid (N7.out.below hb)
      have P1 := Lib.hid (P1.out.below hb)
      clear hb c0 c1 c2 c3 lN B7 N7
      have lN := N8.out.lt
      obtain ⟨c0, c1, c2, c3⟩ := N8.out.cells
      go_wp2_with fail
      refine (ggate_is c h x A cA n ls g G true HGG.out HHG.out _ (HX.out.below B8.out) LX.out hn).mono ?_
      rintro e w9 ⟨rfl, hb⟩
      have B9 := Lib.hid (chain B8.out hb)
      have N9 := Lib.hid (N8.out.below hb)
      have P1 := Lib.hid (P1.out.below hb)
      clear hb c0 c1 c2 c3 lN B8 N8
      have lN := N9.out.lt
      obtain ⟨c0, c1, c2, c3⟩ := N9.out.cells
      go_wp2_with fail
      obtain ⟨w10, hV⟩ : ∃ V, V = w9.alloc (.cells #[.int .i64 G.l, .int .i64 G.a, .int .i64 G.t, .int .i64 G.x, .int .i64 G.w] 54) := ⟨_, rfl⟩
      have hb : Below w9.heap.size w9 w10 := by rw [hV]; exact (Below.refl _ w9).alloc (Nat.le_refl _) _
      have Q1 : Hid (GB w10 w9.heap.size G) := by rw [hV]; exact heap_alloc_new w9 _
      rw [← hV]
      clear hV
      have B10 := Lib.hid (chain B9.out hb)
      have N10 := Lib.hid (N9.out.below hb)
      have P1 := Lib.hid (P1.out.below hb)
      clear hb c0 c1 c2 c3 lN B9 N9
      have lN := N10.out.lt
      obtain ⟨c0, c1, c2, c3⟩ := N10.out.cells
      obtain ⟨bT, oT, eT, lT, qT⟩ := P1.out (by rw [← M1.out]; have := K1.out; omega)
      subst eT
      obtain ⟨y0, y1⟩ : w10.cell? ⟨bT, oT + k * 2, none⟩ = some (.int .i64 t.x) ∧ w10.cell? ⟨bT, oT + k * 2 + 1, none⟩ = some (.int .i64 t.w) := ⟨Rg.at tcells_len qT TK.out 0 _ rfl, Rg.at tcells_len qT TK.out 1 _ rfl⟩
      obtain ⟨_, _, _, x3, x4⟩ := Q1.out.cells
      have lQ := Q1.out.lt
      clear qT
      by_cases k0 : k = 0
      · subst k0
        have kz : (0 : Int) < (n1 : Int) := by have := K1.out; omega
        have kz2 : 0 < n1 := K1.out
        have y0 : w10.cell? ⟨bT, oT, none⟩ = some (.int .i64 t.x) := by rw [show oT + 0 * 2 = oT by omega] at y0; exact y0
        have y1 : w10.cell? ⟨bT, oT + 1, none⟩ = some (.int .i64 t.w) := by rw [show oT + 0 * 2 + 1 = oT + 1 by omega] at y1; exact y1
        refine wp_region_noPanic ?_
        refine wp_region_held_drew (S := fun w' => w'.cell? ⟨w.heap.size, 0, none⟩ = some (.int .i64 c) ∧ w'.cell? ⟨w.heap.size, 1, none⟩ = some (.int .i64 h) ∧ w'.cell? ⟨w.heap.size, 2, none⟩ = some (.int .i64 x) ∧ w'.cell? ⟨w.heap.size, 3, none⟩ = some (.slice A n cA) ∧ w'.cell? ⟨w9.heap.size, 3, none⟩ = some (.int .i64 G.x) ∧ w'.cell? ⟨w9.heap.size, 4, none⟩ = some (.int .i64 G.w) ∧ w'.cell? ⟨bT, oT, none⟩ = some (.int .i64 t.x) ∧ w'.cell? ⟨bT, oT + 1, none⟩ = some (.int .i64 t.w)) (by kernel_rfl) ⟨c0, c1, c2, c3, x3, x4, y0, y1⟩ (fun hHeld => ?_)
        have HC0 : Hid (Below w10.heap.size w10 w10.drew) := below_drew w10
        refine wpAnyH_take (i := 0) (v := ?vv1) (by simp only [List.getElem?_toArray, List.getElem?_cons_zero]; rfl) (by kernel_rfl) (by kernel_rfl) (by kernel_rfl) (fun _ _ _ h => h) (Or.inl ⟨by rfl, ?yy1⟩) (by assumption) ?rr1
        case yy1 => (intro w hSw; (try dsimp only at hSw); go_simp; first | done | with_reducible rfl)
        simp only [Act.put, List.setIfInBounds_toArray, List.set_cons_zero, List.set_cons_succ]
        refine wpAnyH_take (i := 1) (v := ?vv2) (by simp only [List.getElem?_toArray, List.getElem?_cons_zero, List.getElem?_cons_succ]; rfl) (by kernel_rfl) (by kernel_rfl) (by kernel_rfl) (fun _ _ _ h => h) (Or.inl ⟨by rfl, ?yy2⟩) (by assumption) ?rr2
        case yy2 => (intro w hSw; (try dsimp only at hSw); go_simp; first | done | with_reducible rfl)
        simp only [Act.put, List.setIfInBounds_toArray, List.set_cons_zero, List.set_cons_succ]
        refine wpAnyH_take (i := 2) (v := ?vv3) (by simp only [List.getElem?_toArray, List.getElem?_cons_zero, List.getElem?_cons_succ]; rfl) (by kernel_rfl) (by kernel_rfl) (by kernel_rfl) (fun _ _ _ h => h) (Or.inl ⟨by rfl, ?yy3⟩) (by assumption) ?rr3
        case yy3 => (intro w hSw; (try dsimp only at hSw); go_simp; first | done | with_reducible rfl)
        simp only [Act.put, List.setIfInBounds_toArray, List.set_cons_zero, List.set_cons_succ]
        refine wpAnyH_take (i := 3) (v := ?vv4) (by simp only [List.getElem?_toArray, List.getElem?_cons_zero, List.getElem?_cons_succ]; rfl) (by kernel_rfl) (by kernel_rfl) (by kernel_rfl) (fun _ _ _ h => h) (Or.inl ⟨by rfl, ?yy4⟩) (by assumption) ?rr4
        case yy4 => (intro w hSw; (try dsimp only at hSw); go_simp; first | done | with_reducible rfl)
        simp only [Act.put, List.setIfInBounds_toArray, List.set_cons_zero, List.set_cons_succ]
        refine wpAnyH_take (i := 4) (v := ?vv5) (by simp only [List.getElem?_toArray, List.getElem?_cons_zero, List.getElem?_cons_succ]; rfl) (by kernel_rfl) (by kernel_rfl) (by kernel_rfl) (fun _ _ _ h => h) (Or.inl ⟨by rfl, ?yy5⟩) (by assumption) ?rr5
        case yy5 => (intro w hSw; (try dsimp only at hSw); go_simp; first | done | with_reducible rfl)
        simp only [Act.put, List.setIfInBounds_toArray, List.set_cons_zero, List.set_cons_succ]
        refine wpAnyH_take (i := 5) (v := ?vv6) (by simp only [List.getElem?_toArray, List.getElem?_cons_zero, List.getElem?_cons_succ]; rfl) (by kernel_rfl) (by kernel_rfl) (by kernel_rfl) (fun _ _ _ h => h) (Or.inl ⟨by rfl, ?yy6⟩) (by assumption) ?rr6
        case yy6 => (intro w hSw; (try dsimp only at hSw); go_simp; first | done | with_reducible rfl)
        simp only [Act.put, List.setIfInBounds_toArray, List.set_cons_zero, List.set_cons_succ]
        refine wpAnyH_take (i := 6) (v := ?vv7) (by simp only [List.getElem?_toArray, List.getElem?_cons_zero, List.getElem?_cons_succ]; rfl) (by kernel_rfl) (by kernel_rfl) (by kernel_rfl) (fun _ _ _ h => h) (Or.inl ⟨by rfl, ?yy7⟩) (by assumption) ?rr7
        case yy7 => (intro w hSw; (try dsimp only at hSw); go_simp; first | done | with_reducible rfl)
        simp only [Act.put, List.setIfInBounds_toArray, List.set_cons_zero, List.set_cons_succ]
        refine wpAnyH_take (i := 7) (v := ?vv8) (by simp only [List.getElem?_toArray, List.getElem?_cons_zero, List.getElem?_cons_succ]; rfl) (by kernel_rfl) (by kernel_rfl) (by kernel_rfl) (fun _ _ _ h => h) (Or.inl ⟨by rfl, ?yy8⟩) (by assumption) ?rr8
        case yy8 => (intro w hSw; (try dsimp only at hSw); go_simp; first | done | with_reducible rfl)
        simp only [Act.put, List.setIfInBounds_toArray, List.set_cons_zero, List.set_cons_succ]
        refine wpAnyH_take (i := 8) (v := ?vv9) (by simp only [List.getElem?_toArray, List.getElem?_cons_zero, List.getElem?_cons_succ]; rfl) (by kernel_rfl) (by kernel_rfl) (by kernel_rfl) (fun _ _ _ h => h) (Or.inl ⟨by rfl, ?yy9⟩) (by assumption) ?rr9
        case yy9 => (intro w hSw; (try dsimp only at hSw); go_simp; first | done | with_reducible rfl)
        simp only [Act.put, List.setIfInBounds_toArray, List.set_cons_zero, List.set_cons_succ]
        refine wpAnyH_take (i := 9) (v := ?vv10) (by simp only [List.getElem?_toArray, List.getElem?_cons_zero, List.getElem?_cons_succ]; rfl) (by kernel_rfl) (by kernel_rfl) (by kernel_rfl) (fun _ _ _ h => h) (Or.inl ⟨by rfl, ?yy10⟩) (by assumption) ?rr10
        case yy10 => (intro w hSw; (try dsimp only at hSw); go_simp; first | done | with_reducible rfl)
        simp only [Act.put, List.setIfInBounds_toArray, List.set_cons_zero, List.set_cons_succ]
        refine wpAnyH_take (i := 10) (v := ?vv11) (by simp only [List.getElem?_toArray, List.getElem?_cons_zero, List.getElem?_cons_succ]; rfl) (by kernel_rfl) (by kernel_rfl) (by kernel_rfl) (fun _ _ _ h => h) (Or.inl ⟨by rfl, ?yy11⟩) (by assumption) ?rr11
        case yy11 => (intro w hSw; (try dsimp only at hSw); go_simp; first | done | with_reducible rfl)
        simp only [Act.put, List.setIfInBounds_toArray, List.set_cons_zero, List.set_cons_succ]
        refine wpAnyH_take (i := 11) (v := ?vv12) (by simp only [List.getElem?_toArray, List.getElem?_cons_zero, List.getElem?_cons_succ]; rfl) (by kernel_rfl) (by kernel_rfl) (by kernel_rfl) (fun _ _ _ h => h) (Or.inl ⟨by rfl, ?yy12⟩) (by assumption) ?rr12
        case yy12 => (intro w hSw; (try dsimp only at hSw); go_simp; first | done | with_reducible rfl)
        simp only [Act.put, List.setIfInBounds_toArray, List.set_cons_zero, List.set_cons_succ]
        refine wpAnyH_take (i := 12) (v := ?vv13) (by simp only [List.getElem?_toArray, List.getElem?_cons_zero, List.getElem?_cons_succ]; rfl) (by kernel_rfl) (by kernel_rfl) (by kernel_rfl) (fun _ _ _ h => h) (Or.inl ⟨by rfl, ?yy13⟩) (by assumption) ?rr13
        case yy13 => (intro w hSw; (try dsimp only at hSw); go_simp; first | done | with_reducible rfl)
        simp only [Act.put, List.setIfInBounds_toArray, List.set_cons_zero, List.set_cons_succ]
        refine wpAnyH_take (i := 13) (v := ?vv14) (by simp only [List.getElem?_toArray, List.getElem?_cons_zero, List.getElem?_cons_succ]; rfl) (by kernel_rfl) (by kernel_rfl) (by kernel_rfl) (fun _ _ _ h => h) (Or.inl ⟨by rfl, ?yy14⟩) (by assumption) ?rr14
        case yy14 => (intro w hSw; (try dsimp only at hSw); go_simp; first | done | with_reducible rfl)
        simp only [Act.put, List.setIfInBounds_toArray, List.set_cons_zero, List.set_cons_succ]
        refine wpAnyH_take (i := 14) (v := ?vv15) (by simp only [List.getElem?_toArray, List.getElem?_cons_zero, List.getElem?_cons_succ]; rfl) (by kernel_rfl) (by kernel_rfl) (by kernel_rfl) (fun _ _ _ h => h) (Or.inl ⟨by rfl, ?yy15⟩) (by assumption) ?rr15
        case yy15 => (intro w hSw; (try dsimp only at hSw); go_simp; first | done | with_reducible rfl)
        simp only [Act.put, List.setIfInBounds_toArray, List.set_cons_zero, List.set_cons_succ]
        refine wpAnyH_take (i := 15) (v := ?vv16) (by simp only [List.getElem?_toArray, List.getElem?_cons_zero, List.getElem?_cons_succ]; rfl) (by kernel_rfl) (by kernel_rfl) (by kernel_rfl) (fun _ _ _ h => h) (Or.inl ⟨by rfl, ?yy16⟩) (by assumption) ?rr16
        case yy16 => (intro w hSw; (try dsimp only at hSw); go_simp; first | done | with_reducible rfl)
        simp only [Act.put, List.setIfInBounds_toArray, List.set_cons_zero, List.set_cons_succ]
        refine wpAnyH_take (i := 16) (v := ?vv17) (by simp only [List.getElem?_toArray, List.getElem?_cons_zero, List.getElem?_cons_succ]; rfl) (by kernel_rfl) (by kernel_rfl) (by kernel_rfl) (fun _ _ _ h => h) (Or.inl ⟨by rfl, ?yy17⟩) (by assumption) ?rr17
        case yy17 => (intro w hSw; (try dsimp only at hSw); go_simp; first | done | with_reducible rfl)
        simp only [Act.put, List.setIfInBounds_toArray, List.set_cons_zero, List.set_cons_succ]
        refine wpAnyH_take (i := 17) (v := ?vv18) (by simp only [List.getElem?_toArray, List.getElem?_cons_zero, List.getElem?_cons_succ]; rfl) (by kernel_rfl) (by kernel_rfl) (by kernel_rfl) (fun _ _ _ h => h) (Or.inl ⟨by rfl, ?yy18⟩) (by assumption) ?rr18
        case yy18 => (intro w hSw; (try dsimp only at hSw); go_simp; first | done | with_reducible rfl)
        simp only [Act.put, List.setIfInBounds_toArray, List.set_cons_zero, List.set_cons_succ]
        refine wpAnyH_take (i := 18) (v := ?vv19) (by simp only [List.getElem?_toArray, List.getElem?_cons_zero, List.getElem?_cons_succ]; rfl) (by kernel_rfl) (by kernel_rfl) (by kernel_rfl) (fun _ _ _ h => h) (Or.inl ⟨by rfl, ?yy19⟩) (by assumption) ?rr19
        case yy19 => (intro w hSw; (try dsimp only at hSw); go_simp; first | done | with_reducible rfl)
        simp only [Act.put, List.setIfInBounds_toArray, List.set_cons_zero, List.set_cons_succ]
        refine wpAnyH_take (i := 19) (v := ?vv20) (by simp only [List.getElem?_toArray, List.getElem?_cons_zero, List.getElem?_cons_succ]; rfl) (by kernel_rfl) (by kernel_rfl) (by kernel_rfl) (fun _ _ _ h => h) (Or.inl ⟨by rfl, ?yy20⟩) (by assumption) ?rr20
        case yy20 => (intro w hSw; (try dsimp only at hSw); go_simp; first | done | with_reducible rfl)
        simp only [Act.put, List.setIfInBounds_toArray, List.set_cons_zero, List.set_cons_succ]
        refine wpAnyH_take (i := 20) (v := ?vv21) (by simp only [List.getElem?_toArray, List.getElem?_cons_zero, List.getElem?_cons_succ]; rfl) (by kernel_rfl) (by kernel_rfl) (by kernel_rfl) (fun _ _ _ h => h) (Or.inl ⟨by rfl, ?yy21⟩) (by assumption) ?rr21
        case yy21 => (intro w hSw; (try dsimp only at hSw); go_simp; first | done | with_reducible rfl)
        simp only [Act.put, List.setIfInBounds_toArray, List.set_cons_zero, List.set_cons_succ]
        refine wpAnyH_take (i := 21) (v := ?vv22) (by simp only [List.getElem?_toArray, List.getElem?_cons_zero, List.getElem?_cons_succ]; rfl) (by kernel_rfl) (by kernel_rfl) (by kernel_rfl) (fun _ _ _ h => h) (Or.inl ⟨by rfl, ?yy22⟩) (by assumption) ?rr22
        case yy22 => (intro w hSw; (try dsimp only at hSw); go_simp; first | done | with_reducible rfl)
        simp only [Act.put, List.setIfInBounds_toArray, List.set_cons_zero, List.set_cons_succ]
        refine wpAnyH_take (i := 22) (v := ?vv23) (by simp only [List.getElem?_toArray, List.getElem?_cons_zero, List.getElem?_cons_succ]; rfl) (by kernel_rfl) (by kernel_rfl) (by kernel_rfl) (fun _ _ _ h => h) (Or.inl ⟨by rfl, ?yy23⟩) (by assumption) ?rr23
        case yy23 => (intro w hSw; (try dsimp only at hSw); go_simp; first | done | with_reducible rfl)
        simp only [Act.put, List.setIfInBounds_toArray, List.set_cons_zero, List.set_cons_succ]
        refine wpAnyH_take (i := 23) (v := ?vv24) (by simp only [List.getElem?_toArray, List.getElem?_cons_zero, List.getElem?_cons_succ]; rfl) (by kernel_rfl) (by kernel_rfl) (by kernel_rfl) (fun _ _ _ h => h) (Or.inl ⟨by rfl, ?yy24⟩) (by assumption) ?rr24
        case yy24 => (intro w hSw; (try dsimp only at hSw); go_simp; first | done | with_reducible rfl)
        simp only [Act.put, List.setIfInBounds_toArray, List.set_cons_zero, List.set_cons_succ]
        refine wpAnyH_take (i := 24) (v := ?vv25) (by simp only [List.getElem?_toArray, List.getElem?_cons_zero, List.getElem?_cons_succ]; rfl) (by kernel_rfl) (by kernel_rfl) (by kernel_rfl) (fun _ _ _ h => h) (Or.inl ⟨by rfl, ?yy25⟩) (by assumption) ?rr25
        case yy25 => (intro w hSw; (try dsimp only at hSw); go_simp; first | done | with_reducible rfl)
        simp only [Act.put, List.setIfInBounds_toArray, List.set_cons_zero, List.set_cons_succ]
        refine wpAnyH_take (i := 25) (v := ?vv26) (by simp only [List.getElem?_toArray, List.getElem?_cons_zero, List.getElem?_cons_succ]; rfl) (by kernel_rfl) (by kernel_rfl) (by kernel_rfl) (fun _ _ _ h => h) (Or.inl ⟨by rfl, ?yy26⟩) (by assumption) ?rr26
        case yy26 => (intro w hSw; (try dsimp only at hSw); go_simp; first | done | with_reducible rfl)
        simp only [Act.put, List.setIfInBounds_toArray, List.set_cons_zero, List.set_cons_succ]
        refine wpAnyH_take (i := 26) (v := undef) (by simp only [List.getElem?_toArray, List.getElem?_cons_zero, List.getElem?_cons_succ]; rfl) (by kernel_rfl) (by kernel_rfl) (by kernel_rfl) (fun _ _ _ h => h) (Or.inr ⟨by rfl, rfl⟩) (by assumption) ?_
        simp only [Act.put, List.setIfInBounds_toArray, List.set_cons_zero, List.set_cons_succ]
        refine wpAnyH_take (i := 27) (v := undef) (by simp only [List.getElem?_toArray, List.getElem?_cons_zero, List.getElem?_cons_succ]; rfl) (by kernel_rfl) (by kernel_rfl) (by kernel_rfl) (fun _ _ _ h => h) (Or.inr ⟨by rfl, rfl⟩) (by assumption) ?_
        simp only [Act.put, List.setIfInBounds_toArray, List.set_cons_zero, List.set_cons_succ]
        refine wpAnyH_take (i := 28) (v := undef) (by simp only [List.getElem?_toArray, List.getElem?_cons_zero, List.getElem?_cons_succ]; rfl) (by kernel_rfl) (by kernel_rfl) (by kernel_rfl) (fun _ _ _ h => h) (Or.inr ⟨by rfl, rfl⟩) (by assumption) ?_
        simp only [Act.put, List.setIfInBounds_toArray, List.set_cons_zero, List.set_cons_succ]
        refine wpAnyH_take (i := 29) (v := undef) (by simp only [List.getElem?_toArray, List.getElem?_cons_zero, List.getElem?_cons_succ]; rfl) (by kernel_rfl) (by kernel_rfl) (by kernel_rfl) (fun _ _ _ h => h) (Or.inr ⟨by rfl, rfl⟩) (by assumption) ?_
        simp only [Act.put, List.setIfInBounds_toArray, List.set_cons_zero, List.set_cons_succ]
        refine wpAnyH_take (i := 30) (v := undef) (by simp only [List.getElem?_toArray, List.getElem?_cons_zero, List.getElem?_cons_succ]; rfl) (by kernel_rfl) (by kernel_rfl) (by kernel_rfl) (fun _ _ _ h => h) (Or.inr ⟨by rfl, rfl⟩) (by assumption) ?_
        simp only [Act.put, List.setIfInBounds_toArray, List.set_cons_zero, List.set_cons_succ]
        refine wpAnyH_take (i := 31) (v := undef) (by simp only [List.getElem?_toArray, List.getElem?_cons_zero, List.getElem?_cons_succ]; rfl) (by kernel_rfl) (by kernel_rfl) (by kernel_rfl) (fun _ _ _ h => h) (Or.inr ⟨by rfl, rfl⟩) (by assumption) ?_
        simp only [Act.put, List.setIfInBounds_toArray, List.set_cons_zero, List.set_cons_succ]
        refine wpAnyH_take (i := 32) (v := undef) (by simp only [List.getElem?_toArray, List.getElem?_cons_zero, List.getElem?_cons_succ]; rfl) (by kernel_rfl) (by kernel_rfl) (by kernel_rfl) (fun _ _ _ h => h) (Or.inr ⟨by rfl, rfl⟩) (by assumption) ?_
        simp only [Act.put, List.setIfInBounds_toArray, List.set_cons_zero, List.set_cons_succ]
        refine wpAnyH_take (i := 33) (v := undef) (by simp only [List.getElem?_toArray, List.getElem?_cons_zero, List.getElem?_cons_succ]; rfl) (by kernel_rfl) (by kernel_rfl) (by kernel_rfl) (fun _ _ _ h => h) (Or.inr ⟨by rfl, rfl⟩) (by assumption) ?_
        simp only [Act.put, List.setIfInBounds_toArray, List.set_cons_zero, List.set_cons_succ]
        refine wpAnyH_take (i := 34) (v := ?vv27) (by simp only [List.getElem?_toArray, List.getElem?_cons_zero, List.getElem?_cons_succ]; rfl) (by kernel_rfl) (by kernel_rfl) (by kernel_rfl) (fun _ _ _ h => h) (Or.inl ⟨by rfl, ?yy27⟩) (by assumption) ?rr27
        case yy27 => (intro w hSw; (try dsimp only at hSw); go_simp; first | done | with_reducible rfl)
        simp only [Act.put, List.setIfInBounds_toArray, List.set_cons_zero, List.set_cons_succ]
        refine wpAnyH_take (i := 35) (v := ?vv28) (by simp only [List.getElem?_toArray, List.getElem?_cons_zero, List.getElem?_cons_succ]; rfl) (by kernel_rfl) (by kernel_rfl) (by kernel_rfl) (fun _ _ _ h => h) (Or.inl ⟨by rfl, ?yy28⟩) (by assumption) ?rr28
        case yy28 => (intro w hSw; (try dsimp only at hSw); go_simp; first | done | with_reducible rfl)
        simp only [Act.put, List.setIfInBounds_toArray, List.set_cons_zero, List.set_cons_succ]
        refine wpAnyH_done (by kernel_rfl) ?_ _
        refine NoPanic.normal ?_
        have BE := Lib.hid (chain B10.out HC0.out); have NE := Lib.hid (N10.out.below HC0.out); have PE := Lib.hid (P1.out.below HC0.out)
        go_wp2_with fail
        go_roundg (n1 - (0 + 1))
        case measure => have := HGH.out; omega
        case rel => exact ⟨0 + 1, by have := K1.out; omega, rfl, by go_num, BE, NE, PE⟩
      have e5 : decide (0 < (k : Int)) = true := decide_eq_true (by omega)
      have e6 : decide (0 < k) = true := decide_eq_true (by omega)
      have w1 := W1.out; have w2 := W2.out
      clear k0
      refine wp_region_noPanic ?_
      refine wp_region_held_drew (S := fun w' => w'.cell? ⟨w.heap.size, 0, none⟩ = some (.int .i64 c) ∧ w'.cell? ⟨w.heap.size, 1, none⟩ = some (.int .i64 h) ∧ w'.cell? ⟨w.heap.size, 2, none⟩ = some (.int .i64 x) ∧ w'.cell? ⟨w.heap.size, 3, none⟩ = some (.slice A n cA) ∧ w'.cell? ⟨w9.heap.size, 3, none⟩ = some (.int .i64 G.x) ∧ w'.cell? ⟨w9.heap.size, 4, none⟩ = some (.int .i64 G.w) ∧ w'.cell? ⟨bT, oT + k * 2, none⟩ = some (.int .i64 t.x) ∧ w'.cell? ⟨bT, oT + k * 2 + 1, none⟩ = some (.int .i64 t.w)) (by kernel_rfl) ⟨c0, c1, c2, c3, x3, x4, y0, y1⟩ (fun hHeld => ?_)
      have HC0 : Hid (Below w10.heap.size w10 w10.drew) := below_drew w10
      refine wpAnyH_take (i := 0) (v := ?vv29) (by simp only [List.getElem?_toArray, List.getElem?_cons_zero]; rfl) (by kernel_rfl) (by kernel_rfl) (by kernel_rfl) (fun _ _ _ h => h) (Or.inl ⟨by rfl, ?yy29⟩) (by assumption) ?rr29
      case yy29 => (intro w hSw; (try dsimp only at hSw); go_simp; first | done | with_reducible rfl)
      simp only [Act.put, List.setIfInBounds_toArray, List.set_cons_zero, List.set_cons_succ]
      refine wpAnyH_take (i := 1) (v := ?vv30) (by simp only [List.getElem?_toArray, List.getElem?_cons_zero, List.getElem?_cons_succ]; rfl) (by kernel_rfl) (by kernel_rfl) (by kernel_rfl) (fun _ _ _ h => h) (Or.inl ⟨by rfl, ?yy30⟩) (by assumption) ?rr30
      case yy30 => (intro w hSw; (try dsimp only at hSw); go_simp; first | done | with_reducible rfl)
      simp only [Act.put, List.setIfInBounds_toArray, List.set_cons_zero, List.set_cons_succ]
      refine wpAnyH_take (i := 2) (v := ?vv31) (by simp only [List.getElem?_toArray, List.getElem?_cons_zero, List.getElem?_cons_succ]; rfl) (by kernel_rfl) (by kernel_rfl) (by kernel_rfl) (fun _ _ _ h => h) (Or.inl ⟨by rfl, ?yy31⟩) (by assumption) ?rr31
      case yy31 => (intro w hSw; (try dsimp only at hSw); go_simp; first | done | with_reducible rfl)
      simp only [Act.put, List.setIfInBounds_toArray, List.set_cons_zero, List.set_cons_succ]
      refine wpAnyH_take (i := 3) (v := ?vv32) (by simp only [List.getElem?_toArray, List.getElem?_cons_zero, List.getElem?_cons_succ]; rfl) (by kernel_rfl) (by kernel_rfl) (by kernel_rfl) (fun _ _ _ h => h) (Or.inl ⟨by rfl, ?yy32⟩) (by assumption) ?rr32
      case yy32 => (intro w hSw; (try dsimp only at hSw); go_simp; first | done | with_reducible rfl)
      simp only [Act.put, List.setIfInBounds_toArray, List.set_cons_zero, List.set_cons_succ]
      refine wpAnyH_take (i := 4) (v := ?vv33) (by simp only [List.getElem?_toArray, List.getElem?_cons_zero, List.getElem?_cons_succ]; rfl) (by kernel_rfl) (by kernel_rfl) (by kernel_rfl) (fun _ _ _ h => h) (Or.inl ⟨by rfl, ?yy33⟩) (by assumption) ?rr33
      case yy33 => (intro w hSw; (try dsimp only at hSw); go_simp; first | done | with_reducible rfl)
      simp only [Act.put, List.setIfInBounds_toArray, List.set_cons_zero, List.set_cons_succ]
      refine wpAnyH_take (i := 5) (v := ?vv34) (by simp only [List.getElem?_toArray, List.getElem?_cons_zero, List.getElem?_cons_succ]; rfl) (by kernel_rfl) (by kernel_rfl) (by kernel_rfl) (fun _ _ _ h => h) (Or.inl ⟨by rfl, ?yy34⟩) (by assumption) ?rr34
      case yy34 => (intro w hSw; (try dsimp only at hSw); go_simp; first | done | with_reducible rfl)
      simp only [Act.put, List.setIfInBounds_toArray, List.set_cons_zero, List.set_cons_succ]
      refine wpAnyH_take (i := 6) (v := ?vv35) (by simp only [List.getElem?_toArray, List.getElem?_cons_zero, List.getElem?_cons_succ]; rfl) (by kernel_rfl) (by kernel_rfl) (by kernel_rfl) (fun _ _ _ h => h) (Or.inl ⟨by rfl, ?yy35⟩) (by assumption) ?rr35
      case yy35 => (intro w hSw; (try dsimp only at hSw); go_simp; first | done | with_reducible rfl)
      simp only [Act.put, List.setIfInBounds_toArray, List.set_cons_zero, List.set_cons_succ]
      refine wpAnyH_take (i := 7) (v := ?vv36) (by simp only [List.getElem?_toArray, List.getElem?_cons_zero, List.getElem?_cons_succ]; rfl) (by kernel_rfl) (by kernel_rfl) (by kernel_rfl) (fun _ _ _ h => h) (Or.inl ⟨by rfl, ?yy36⟩) (by assumption) ?rr36
      case yy36 => (intro w hSw; (try dsimp only at hSw); go_simp; first | done | with_reducible rfl)
      simp only [Act.put, List.setIfInBounds_toArray, List.set_cons_zero, List.set_cons_succ]
      refine wpAnyH_take (i := 8) (v := ?vv37) (by simp only [List.getElem?_toArray, List.getElem?_cons_zero, List.getElem?_cons_succ]; rfl) (by kernel_rfl) (by kernel_rfl) (by kernel_rfl) (fun _ _ _ h => h) (Or.inl ⟨by rfl, ?yy37⟩) (by assumption) ?rr37
      case yy37 => (intro w hSw; (try dsimp only at hSw); go_simp; first | done | with_reducible rfl)
      simp only [Act.put, List.setIfInBounds_toArray, List.set_cons_zero, List.set_cons_succ]
      refine wpAnyH_take (i := 9) (v := ?vv38) (by simp only [List.getElem?_toArray, List.getElem?_cons_zero, List.getElem?_cons_succ]; rfl) (by kernel_rfl) (by kernel_rfl) (by kernel_rfl) (fun _ _ _ h => h) (Or.inl ⟨by rfl, ?yy38⟩) (by assumption) ?rr38
      case yy38 => (intro w hSw; (try dsimp only at hSw); go_simp; first | done | with_reducible rfl)
      simp only [Act.put, List.setIfInBounds_toArray, List.set_cons_zero, List.set_cons_succ]
      refine wpAnyH_take (i := 10) (v := ?vv39) (by simp only [List.getElem?_toArray, List.getElem?_cons_zero, List.getElem?_cons_succ]; rfl) (by kernel_rfl) (by kernel_rfl) (by kernel_rfl) (fun _ _ _ h => h) (Or.inl ⟨by rfl, ?yy39⟩) (by assumption) ?rr39
      case yy39 => (intro w hSw; (try dsimp only at hSw); go_simp; first | done | with_reducible rfl)
      simp only [Act.put, List.setIfInBounds_toArray, List.set_cons_zero, List.set_cons_succ]
      refine wpAnyH_take (i := 11) (v := ?vv40) (by simp only [List.getElem?_toArray, List.getElem?_cons_zero, List.getElem?_cons_succ]; rfl) (by kernel_rfl) (by kernel_rfl) (by kernel_rfl) (fun _ _ _ h => h) (Or.inl ⟨by rfl, ?yy40⟩) (by assumption) ?rr40
      case yy40 => (intro w hSw; (try dsimp only at hSw); go_simp; first | done | with_reducible rfl)
      simp only [Act.put, List.setIfInBounds_toArray, List.set_cons_zero, List.set_cons_succ]
      refine wpAnyH_take (i := 12) (v := ?vv41) (by simp only [List.getElem?_toArray, List.getElem?_cons_zero, List.getElem?_cons_succ]; rfl) (by kernel_rfl) (by kernel_rfl) (by kernel_rfl) (fun _ _ _ h => h) (Or.inl ⟨by rfl, ?yy41⟩) (by assumption) ?rr41
      case yy41 => (intro w hSw; (try dsimp only at hSw); go_simp; first | done | with_reducible rfl)
      simp only [Act.put, List.setIfInBounds_toArray, List.set_cons_zero, List.set_cons_succ]
      refine wpAnyH_take (i := 13) (v := ?vv42) (by simp only [List.getElem?_toArray, List.getElem?_cons_zero, List.getElem?_cons_succ]; rfl) (by kernel_rfl) (by kernel_rfl) (by kernel_rfl) (fun _ _ _ h => h) (Or.inl ⟨by rfl, ?yy42⟩) (by assumption) ?rr42
      case yy42 => (intro w hSw; (try dsimp only at hSw); go_simp; first | done | with_reducible rfl)
      simp only [Act.put, List.setIfInBounds_toArray, List.set_cons_zero, List.set_cons_succ]
      refine wpAnyH_take (i := 14) (v := ?vv43) (by simp only [List.getElem?_toArray, List.getElem?_cons_zero, List.getElem?_cons_succ]; rfl) (by kernel_rfl) (by kernel_rfl) (by kernel_rfl) (fun _ _ _ h => h) (Or.inl ⟨by rfl, ?yy43⟩) (by assumption) ?rr43
      case yy43 => (intro w hSw; (try dsimp only at hSw); go_simp; first | done | with_reducible rfl)
      simp only [Act.put, List.setIfInBounds_toArray, List.set_cons_zero, List.set_cons_succ]
      refine wpAnyH_take (i := 15) (v := ?vv44) (by simp only [List.getElem?_toArray, List.getElem?_cons_zero, List.getElem?_cons_succ]; rfl) (by kernel_rfl) (by kernel_rfl) (by kernel_rfl) (fun _ _ _ h => h) (Or.inl ⟨by rfl, ?yy44⟩) (by assumption) ?rr44
      case yy44 => (intro w hSw; (try dsimp only at hSw); go_simp; first | done | with_reducible rfl)
      simp only [Act.put, List.setIfInBounds_toArray, List.set_cons_zero, List.set_cons_succ]
      refine wpAnyH_take (i := 16) (v := ?vv45) (by simp only [List.getElem?_toArray, List.getElem?_cons_zero, List.getElem?_cons_succ]; rfl) (by kernel_rfl) (by kernel_rfl) (by kernel_rfl) (fun _ _ _ h => h) (Or.inl ⟨by rfl, ?yy45⟩) (by assumption) ?rr45
      case yy45 => (intro w hSw; (try dsimp only at hSw); go_simp; first | done | with_reducible rfl)
      simp only [Act.put, List.setIfInBounds_toArray, List.set_cons_zero, List.set_cons_succ]
      refine wpAnyH_take (i := 17) (v := ?vv46) (by simp only [List.getElem?_toArray, List.getElem?_cons_zero, List.getElem?_cons_succ]; rfl) (by kernel_rfl) (by kernel_rfl) (by kernel_rfl) (fun _ _ _ h => h) (Or.inl ⟨by rfl, ?yy46⟩) (by assumption) ?rr46
      case yy46 => (intro w hSw; (try dsimp only at hSw); go_simp; first | done | with_reducible rfl)
      simp only [Act.put, List.setIfInBounds_toArray, List.set_cons_zero, List.set_cons_succ]
      refine wpAnyH_take (i := 18) (v := ?vv47) (by simp only [List.getElem?_toArray, List.getElem?_cons_zero, List.getElem?_cons_succ]; rfl) (by kernel_rfl) (by kernel_rfl) (by kernel_rfl) (fun _ _ _ h => h) (Or.inl ⟨by rfl, ?yy47⟩) (by assumption) ?rr47
      case yy47 => (intro w hSw; (try dsimp only at hSw); go_simp; first | done | with_reducible rfl)
      simp only [Act.put, List.setIfInBounds_toArray, List.set_cons_zero, List.set_cons_succ]
      refine wpAnyH_take (i := 19) (v := ?vv48) (by simp only [List.getElem?_toArray, List.getElem?_cons_zero, List.getElem?_cons_succ]; rfl) (by kernel_rfl) (by kernel_rfl) (by kernel_rfl) (fun _ _ _ h => h) (Or.inl ⟨by rfl, ?yy48⟩) (by assumption) ?rr48
      case yy48 => (intro w hSw; (try dsimp only at hSw); go_simp; first | done | with_reducible rfl)
      simp only [Act.put, List.setIfInBounds_toArray, List.set_cons_zero, List.set_cons_succ]
      refine wpAnyH_take (i := 20) (v := ?vv49) (by simp only [List.getElem?_toArray, List.getElem?_cons_zero, List.getElem?_cons_succ]; rfl) (by kernel_rfl) (by kernel_rfl) (by kernel_rfl) (fun _ _ _ h => h) (Or.inl ⟨by rfl, ?yy49⟩) (by assumption) ?rr49
      case yy49 => (intro w hSw; (try dsimp only at hSw); go_simp; first | done | with_reducible rfl)
      simp only [Act.put, List.setIfInBounds_toArray, List.set_cons_zero, List.set_cons_succ]
      refine wpAnyH_take (i := 21) (v := ?vv50) (by simp only [List.getElem?_toArray, List.getElem?_cons_zero, List.getElem?_cons_succ]; rfl) (by kernel_rfl) (by kernel_rfl) (by kernel_rfl) (fun _ _ _ h => h) (Or.inl ⟨by rfl, ?yy50⟩) (by assumption) ?rr50
      case yy50 => (intro w hSw; (try dsimp only at hSw); go_simp; first | done | with_reducible rfl)
      simp only [Act.put, List.setIfInBounds_toArray, List.set_cons_zero, List.set_cons_succ]
      refine wpAnyH_take (i := 22) (v := ?vv51) (by simp only [List.getElem?_toArray, List.getElem?_cons_zero, List.getElem?_cons_succ]; rfl) (by kernel_rfl) (by kernel_rfl) (by kernel_rfl) (fun _ _ _ h => h) (Or.inl ⟨by rfl, ?yy51⟩) (by assumption) ?rr51
      case yy51 => (intro w hSw; (try dsimp only at hSw); go_simp; first | done | with_reducible rfl)
      simp only [Act.put, List.setIfInBounds_toArray, List.set_cons_zero, List.set_cons_succ]
      refine wpAnyH_take (i := 23) (v := ?vv52) (by simp only [List.getElem?_toArray, List.getElem?_cons_zero, List.getElem?_cons_succ]; rfl) (by kernel_rfl) (by kernel_rfl) (by kernel_rfl) (fun _ _ _ h => h) (Or.inl ⟨by rfl, ?yy52⟩) (by assumption) ?rr52
      case yy52 => (intro w hSw; (try dsimp only at hSw); go_simp; first | done | with_reducible rfl)
      simp only [Act.put, List.setIfInBounds_toArray, List.set_cons_zero, List.set_cons_succ]
      refine wpAnyH_take (i := 24) (v := ?vv53) (by simp only [List.getElem?_toArray, List.getElem?_cons_zero, List.getElem?_cons_succ]; rfl) (by kernel_rfl) (by kernel_rfl) (by kernel_rfl) (fun _ _ _ h => h) (Or.inl ⟨by rfl, ?yy53⟩) (by assumption) ?rr53
      case yy53 => (intro w hSw; (try dsimp only at hSw); go_simp; first | done | with_reducible rfl)
      simp only [Act.put, List.setIfInBounds_toArray, List.set_cons_zero, List.set_cons_succ]
      refine wpAnyH_take (i := 25) (v := ?vv54) (by simp only [List.getElem?_toArray, List.getElem?_cons_zero, List.getElem?_cons_succ]; rfl) (by kernel_rfl) (by kernel_rfl) (by kernel_rfl) (fun _ _ _ h => h) (Or.inl ⟨by rfl, ?yy54⟩) (by assumption) ?rr54
      case yy54 => (intro w hSw; (try dsimp only at hSw); go_simp; first | done | with_reducible rfl)
      simp only [Act.put, List.setIfInBounds_toArray, List.set_cons_zero, List.set_cons_succ]
      refine wpAnyH_take (i := 26) (v := ?vv55) (by simp only [List.getElem?_toArray, List.getElem?_cons_zero, List.getElem?_cons_succ]; rfl) (by kernel_rfl) (by kernel_rfl) (by kernel_rfl) (fun _ _ _ h => h) (Or.inl ⟨by rfl, ?yy55⟩) (by assumption) ?rr55
      case yy55 => (intro w hSw; (try dsimp only at hSw); go_simp; first | done | with_reducible rfl)
      simp only [Act.put, List.setIfInBounds_toArray, List.set_cons_zero, List.set_cons_succ]
      refine wpAnyH_take (i := 27) (v := ?vv56) (by simp only [List.getElem?_toArray, List.getElem?_cons_zero, List.getElem?_cons_succ]; rfl) (by kernel_rfl) (by kernel_rfl) (by kernel_rfl) (fun _ _ _ h => h) (Or.inl ⟨by rfl, ?yy56⟩) (by assumption) ?rr56
      case yy56 => (intro w hSw; (try dsimp only at hSw); go_simp; first | done | with_reducible rfl)
      simp only [Act.put, List.setIfInBounds_toArray, List.set_cons_zero, List.set_cons_succ]
      refine wpAnyH_take (i := 28) (v := ?vv57) (by simp only [List.getElem?_toArray, List.getElem?_cons_zero, List.getElem?_cons_succ]; rfl) (by kernel_rfl) (by kernel_rfl) (by kernel_rfl) (fun _ _ _ h => h) (Or.inl ⟨by rfl, ?yy57⟩) (by assumption) ?rr57
      case yy57 => (intro w hSw; (try dsimp only at hSw); go_simp; first | done | with_reducible rfl)
      simp only [Act.put, List.setIfInBounds_toArray, List.set_cons_zero, List.set_cons_succ]
      refine wpAnyH_take (i := 29) (v := ?vv58) (by simp only [List.getElem?_toArray, List.getElem?_cons_zero, List.getElem?_cons_succ]; rfl) (by kernel_rfl) (by kernel_rfl) (by kernel_rfl) (fun _ _ _ h => h) (Or.inl ⟨by rfl, ?yy58⟩) (by assumption) ?rr58
      case yy58 => (intro w hSw; (try dsimp only at hSw); go_simp; first | done | with_reducible rfl)
      simp only [Act.put, List.setIfInBounds_toArray, List.set_cons_zero, List.set_cons_succ]
      refine wpAnyH_take (i := 31) (v := ?vv59) (by simp only [List.getElem?_toArray, List.getElem?_cons_zero, List.getElem?_cons_succ]; rfl) (by kernel_rfl) (by kernel_rfl) (by kernel_rfl) (fun _ _ _ h => h) (Or.inl ⟨by rfl, ?yy59⟩) (by assumption) ?rr59
      case yy59 => (intro w hSw; (try dsimp only at hSw); go_simp; first | done | with_reducible rfl)
      simp only [Act.put, List.setIfInBounds_toArray, List.set_cons_zero, List.set_cons_succ]
      refine wpAnyH_ready (rs := [30]) (by kernel_rfl) (by simp) ?_
      refine AllReadyH.cons (by simp only [List.getElem?_toArray, List.getElem?_cons_zero, List.getElem?_cons_succ]; rfl) (fun K hK => ?_) AllReadyH.nil
      go_simp
      go_at_call 50
      (with_reducible refine (gindex8 c h x A cA n ls (kk : Int) (p : Int) 0 b0' HI0.out _ (HX.out.below (chain B10.out HC0.out)) LX.out hn).mono ?_)
      rintro e v1 ⟨rfl, hb⟩
      have HC1 := Lib.hid (HC0.out.trans (hb.mono HC0.out.size))
      clear hb hHeld
      have g0 := (HC1.out.cell (p := ⟨w.heap.size, 0, none⟩) lN).trans c0
      have g1 := (HC1.out.cell (p := ⟨w.heap.size, 1, none⟩) lN).trans c1
      have g2 := (HC1.out.cell (p := ⟨w.heap.size, 2, none⟩) lN).trans c2
      have g3 := (HC1.out.cell (p := ⟨w.heap.size, 3, none⟩) lN).trans c3
      have g4 := (HC1.out.cell (p := ⟨w9.heap.size, 3, none⟩) lQ).trans x3
      have g5 := (HC1.out.cell (p := ⟨w9.heap.size, 4, none⟩) lQ).trans x4
      have g6 := (HC1.out.cell (p := ⟨bT, oT + k * 2, none⟩) lT).trans y0
      have g7 := (HC1.out.cell (p := ⟨bT, oT + k * 2 + 1, none⟩) lT).trans y1
      go_wp2_with fail
      refine hK.out _ _ ⟨g0, g1, g2, g3, g4, g5, g6, g7⟩ (fun hHeld => ?_)
      clear hK K g0 g1 g2 g3 g4 g5 g6 g7 HC0
      try simp only [Act.put, List.setIfInBounds_toArray, List.set_cons_zero, List.set_cons_succ]
      refine wpAnyH_take (i := 32) (v := ?vv60) (by simp only [List.getElem?_toArray, List.getElem?_cons_zero, List.getElem?_cons_succ]; rfl) (by kernel_rfl) (by kernel_rfl) (by kernel_rfl) (fun _ _ _ h => h) (Or.inl ⟨by rfl, ?yy60⟩) (by assumption) ?rr60
      case yy60 => (intro w hSw; (try dsimp only at hSw); go_simp; first | done | with_reducible rfl)
      simp only [Act.put, List.setIfInBounds_toArray, List.set_cons_zero, List.set_cons_succ]
      refine wpAnyH_take (i := 33) (v := ?vv61) (by simp only [List.getElem?_toArray, List.getElem?_cons_zero, List.getElem?_cons_succ]; rfl) (by kernel_rfl) (by kernel_rfl) (by kernel_rfl) (fun _ _ _ h => h) (Or.inl ⟨by rfl, ?yy61⟩) (by assumption) ?rr61
      case yy61 => (intro w hSw; (try dsimp only at hSw); go_simp; first | done | with_reducible rfl)
      simp only [Act.put, List.setIfInBounds_toArray, List.set_cons_zero, List.set_cons_succ]
      refine wpAnyH_take (i := 34) (v := ?vv62) (by simp only [List.getElem?_toArray, List.getElem?_cons_zero, List.getElem?_cons_succ]; rfl) (by kernel_rfl) (by kernel_rfl) (by kernel_rfl) (fun _ _ _ h => h) (Or.inl ⟨by rfl, ?yy62⟩) (by assumption) ?rr62
      case yy62 => (intro w hSw; (try dsimp only at hSw); go_simp; first | done | with_reducible rfl)
      simp only [Act.put, List.setIfInBounds_toArray, List.set_cons_zero, List.set_cons_succ]
      refine wpAnyH_take (i := 35) (v := ?vv63) (by simp only [List.getElem?_toArray, List.getElem?_cons_zero, List.getElem?_cons_succ]; rfl) (by kernel_rfl) (by kernel_rfl) (by kernel_rfl) (fun _ _ _ h => h) (Or.inl ⟨by rfl, ?yy63⟩) (by assumption) ?rr63
      case yy63 => (intro w hSw; (try dsimp only at hSw); go_simp; first | done | with_reducible rfl)
      simp only [Act.put, List.setIfInBounds_toArray, List.set_cons_zero, List.set_cons_succ]
      refine wpAnyH_done (by kernel_rfl) ?_ _
      refine NoPanic.normal ?_
      clear w1 w2
      have BE := Lib.hid (chain B10.out HC1.out); have NE := Lib.hid (N10.out.below HC1.out); have PE := Lib.hid (P1.out.below HC1.out)
      go_wp2_with fail
      go_roundg (n1 - (k + 1))
      case measure => have := HGH.out; omega
      case rel => exact ⟨k + 1, by have := K1.out; omega, rfl, by go_num, BE, NE, PE⟩
    · obtain rfl : k = n1 := by omega
      have I1 : Hid (indexN ⟨c, h, x, ls⟩ (kk : Int) (p : Int) (k : Int) = -1) := index_beyond _ _ _ (.inr (by rw [← HTS.out, ← M1.out]; exact Int.le_refl _))
      have I2 : Hid (indexN ⟨c, h, x, ls⟩ (kk : Int) (p : Int) (-1) = -1) := index_beyond _ _ _ (.inl (by decide))
      go_wp2_with fail
      refine (gindex8 c h x A cA n ls (kk : Int) (p : Int) (k : Int) (-1) I1.out _ (HX.out.below B7.out) LX.out hn).mono ?_
      rintro e w8 ⟨rfl, hb⟩
      have B8 := Lib.hid (chain B7.out hb)
      have N8 := Lib.hid (N7.out.below hb)
      have P1 := Lib.hid (P1.out.below hb)
      clear hb c0 c1 c2 c3 lN B7 N7
      have lN := N8.out.lt
      obtain ⟨c0, c1, c2, c3⟩ := N8.out.cells
      go_wp2_with fail
      refine (gindex8 c h x A cA n ls (kk : Int) (p : Int) (-1) (-1) I2.out _ (HX.out.below B8.out) LX.out hn).mono ?_
      rintro e w9 ⟨rfl, hb⟩
      have B9 := Lib.hid (chain B8.out hb)
      have N9 := Lib.hid (N8.out.below hb)
      have P1 := Lib.hid (P1.out.below hb)
      clear hb c0 c1 c2 c3 lN B8 N8
      have lN := N9.out.lt
      obtain ⟨c0, c1, c2, c3⟩ := N9.out.cells
      go_wp2_with fail
      go_ret
      exact ⟨rfl, B9.out⟩

end Go.Proofs.Ytnfmpladdfgadaa
