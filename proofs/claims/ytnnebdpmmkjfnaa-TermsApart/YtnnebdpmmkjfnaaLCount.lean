/-
  TermsCount: a layer has just as many terms as products; each place is one that goes in, each weight one of its own, or none.
-/
import Derived.Test.YtnnebdpmmkjfnaaTGood
namespace Go.Proofs.Ytnnebdpmmkjfnaa
open Go.RowKit

theorem t_cells {w : World} {b off : Nat} {ts : List Tm} (h : ∀ j u, (ts.flatMap tcells)[j]? = some u → w.cell? ⟨b, off + j, none⟩ = some u) {k : Nat} {t : Tm} (ht : ts[k]? = some t) :
    w.cell? ⟨b, off + k * 2, none⟩ = some (.int .i64 t.x) ∧ w.cell? ⟨b, off + k * 2 + 1, none⟩ = some (.int .i64 t.w) := by
  have q := Rg.at tcells_len h ht
  exact ⟨q 0 _ rfl, q 1 _ rfl⟩
set_option maxHeartbeats 4000000 in
set_option maxRecDepth 100000 in
theorem law_count (c h x : Int) (A : Option Addr) (cA n : Nat) (ls : List Ly) (a : Int) (w : World) (hx : Rl w A ls) (ln : n = ls.length) (ba : 0 ≤ a ∧ a ≤ 255) :
    Calls Try.prog 8 #[.agg #[.int .i64 c, .int .i64 h, .int .i64 x, .slice A n cA], .int .u8 a] w fun e w' => e = .returned (.bool true) ∧ Below w.heap.size w w' := by
  have HX := Lib.hid hx; have LX := Lib.hid ln
  clear hx ln
  obtain ⟨ba0, ba1⟩ := ba
  go_enter Try.func8, Try.ntmps8
  go_wp2_with fail
  refine (head6_any _).mono ?_
  rintro e w1 ⟨rfl, hb⟩
  have B1 := Lib.hid (chain ((Below.refl w.heap.size w).alloc (Nat.le_refl _) _) hb)
  have hN := (NB.new w c h x (.slice A n cA)).below hb
  have N1 := Lib.hid hN
  obtain ⟨c0, c1, c2, c3⟩ := hN.cells
  clear hb hN
  by_cases hg : 60 < n
  · have d : decide (60 < (n : Int)) = true := by simp; omega
    go_wp2_with fail
    refine (great_any c h x A cA n _ true d).mono ?_
    rintro e w2 ⟨rfl, hb⟩
    have B2 := Lib.hid (chain B1.out hb)
    clear hb
    go_wp2_with fail
    go_ret
    exact ⟨rfl, B2.out⟩
  have d : decide (60 < (n : Int)) = false := by simp; omega
  have hn : n ≤ 60 := by omega
  have hn1 : n ≤ 1000 := by omega
  go_wp2_with fail
  refine (great_any c h x A cA n _ false d).mono ?_
  rintro e w2 ⟨rfl, hb⟩
  have B2 := Lib.hid (chain B1.out hb)
  have N2 := Lib.hid (N1.out.below hb)
  clear hb B1 N1 c0 c1 c2 c3 hg d
  obtain ⟨c0, c1, c2, c3⟩ := N2.out.cells
  obtain ⟨K, hK⟩ : ∃ K, K = atN ⟨c, h, x, ls⟩ (a % 8) := ⟨_, rfl⟩
  obtain ⟨is, his⟩ : ∃ is, is = isB ⟨c, h, x, ls⟩ (a % 8) := ⟨_, rfl⟩
  have HK := Lib.hid hK; have HIS := Lib.hid his
  have KZ : Hid (∀ w, Rl w A ls → Calls Try.prog 36 #[.agg #[.int .i64 c, .int .i64 h, .int .i64 x, .slice A n cA], .int .i64 (a % 8)] w fun e w' => e = .returned (.tuple #[.int .i64 K.i.n, .int .i64 K.u.n, .bool is]) ∧ Below w.heap.size w w') := fun w hx => by
    rw [hK, his]; exact sizes_any c h x A cA n ls (a % 8) w hx LX.out hn1
  have KT : Hid (∀ w p ts, termsN ⟨c, h, x, ls⟩ (a % 8) p = ts → Rl w A ls → Calls Try.prog 31 #[.agg #[.int .i64 c, .int .i64 h, .int .i64 x, .slice A n cA], .int .i64 (a % 8), .int .i64 p] w (RowTo tcells ts w)) := fun w p ts hts hx =>
    terms_any c h x A cA n ls (a % 8) p ts hts w hx LX.out hn1
  clear hK his
  go_wp2_with fail
  refine (KZ.out _ (HX.out.below B2.out)).mono ?_
  rintro e w3 ⟨rfl, hb⟩
  have B3 := Lib.hid (chain B2.out hb)
  have N3 := Lib.hid (N2.out.below hb)
  clear hb B2 N2 c0 c1 c2 c3
  obtain ⟨c0, c1, c2, c3⟩ := N3.out.cells
  cases is
  · have hz : atN ⟨c, h, x, ls⟩ (a % 8) = Kn.z := isB_z HIS.out.symm
    have HT0 : Hid (termsN ⟨c, h, x, ls⟩ (a % 8) 0 = []) := if_neg (by rw [hz, hasK_z]; decide)
    clear hz
    go_wp2_with fail
    refine (KT.out _ 0 [] HT0.out (HX.out.below B3.out)).mono ?_
    rintro e w4 ⟨A4, k4, n4, rfl, hn4, hR, hb, hd1, hd2⟩
    obtain rfl : n4 = 0 := hn4
    have B4 := Lib.hid (chain B3.out hb)
    clear hb hR hd1 hd2
    go_wp2_with fail
    go_ret
    exact ⟨rfl, B4.out⟩
  have GD : Hid (Good K) := by rw [HK.out]; exact good_at HIS.out.symm
  have hper := per_bd GD.out
  have hun := size_bd K.u
  have hin := size_bd K.i
  obtain ⟨pr, hpr⟩ : ∃ pr : Nat, perK K = pr := ⟨(perK K).toNat, by omega⟩
  obtain ⟨un, hu⟩ : ∃ un : Nat, K.u.n = un := ⟨K.u.n.toNat, by omega⟩
  obtain ⟨inn, hi⟩ : ∃ inn : Int, K.i.n = inn := ⟨_, rfl⟩
  obtain ⟨fa, hfa⟩ : ∃ fa, fa = K.a := ⟨_, rfl⟩
  obtain ⟨mw, hmw⟩ : ∃ mw, mw = K.w := ⟨_, rfl⟩
  have fa0 : 0 ≤ fa := by rw [hfa]; exact GD.out.2.2.2.2.1
  have fa1 : fa ≤ 512 := by rw [hfa]; exact GD.out.2.2.2.2.2
  have KOK : KnOk K := by rw [HK.out]; exact at_ok _ _
  have mw0 : 0 ≤ mw := by rw [hmw]; exact KOK.w.1
  have mw1 : mw ≤ 9216 := by rw [hmw]; exact KOK.w.2
  have pr1 : pr ≤ 1152 := by omega
  have un1 : un ≤ 128 := by omega
  have HPA : Hid (((un * pr : Nat) : Int) = K.p) := by
    show _ = _
    rw [← per_all GD.out, hu, hpr, Int.natCast_mul]
  have KW : Hid (∀ w, Rl w A ls → Calls Try.prog 18 #[.agg #[.int .i64 c, .int .i64 h, .int .i64 x, .slice A n cA], .int .i64 (a % 8)] w fun e w' => e = .returned (.tuple #[.int .i64 fa, .int .i64 mw]) ∧ Below w.heap.size w w') := fun w hx => by
    rw [hfa, hmw, HK.out]; exact rweights_of c h x A cA n ls (a % 8) w hx LX.out hn1
  have KP : Hid (∀ w, Rl w A ls → Calls Try.prog 25 #[.agg #[.int .i64 c, .int .i64 h, .int .i64 x, .slice A n cA], .int .i64 (a % 8)] w fun e w' => e = .returned (.int .i64 ((un * pr : Nat) : Int)) ∧ Below w.heap.size w w') := fun w hx => by
    rw [HPA.out, HK.out]; exact rproducts_of c h x A cA n ls (a % 8) w hx LX.out hn1
  have TS : Hid (∀ p : Nat, p < un → ∃ ts, termsN ⟨c, h, x, ls⟩ (a % 8) p = ts ∧ ts.length = pr ∧ ∀ t ∈ ts, 0 ≤ t.x ∧ t.x < inn ∧ (mw = 0 → t.w = -1) ∧ (0 < mw → fa ≤ t.w ∧ t.w < fa + mw)) := fun p hp => by
    have hh : hasK K p = true := has_yes (by omega) (by omega)
    refine ⟨termsK K p, ?_, ?_, ?_⟩
    · have := hh; rw [HK.out] at this ⊢; exact termsN_is this
    · have := terms_len GD.out (p : Int); omega
    · rw [hfa, hmw, ← hi]; exact terms_rng GD.out hh
  have TU : Hid (termsN ⟨c, h, x, ls⟩ (a % 8) un = []) := termsN_no (by rw [← HK.out, hu]; omega)
  have TM : Hid (termsN ⟨c, h, x, ls⟩ (a % 8) (-1) = []) := termsN_no (by omega)
  rw [hu, hi]
  have HPR := Lib.hid hpr; have HU := Lib.hid hu
  clear hpr hu hi hfa hmw KOK hper hun hin
  go_wp2_with fail
  refine (KW.out _ (HX.out.below B3.out)).mono ?_
  rintro e w4 ⟨rfl, hb⟩
  have B4 := Lib.hid (chain B3.out hb)
  have N4 := Lib.hid (N3.out.below hb)
  clear hb B3 N3 c0 c1 c2 c3
  obtain ⟨c0, c1, c2, c3⟩ := N4.out.cells
  go_wp2_with fail
  clear c0 c1 c2 c3
  go_loopg [12, 13, 14, 15] un (fun g s12 s13 _ _ wx => ∃ p q : Nat, p ≤ un ∧ Hid (g = un - p) ∧ Hid (q = p * pr) ∧ s12 = .int .i64 (q : Int) ∧ s13 = .int .i64 (p : Int) ∧ Hid (Below w4.heap.size w4 wx))
  case atStart => exact ⟨0, 0, by omega, by show _ = _; omega, by show _ = _; omega, rfl, rfl, Below.refl _ _⟩
  case round =>
    obtain ⟨p, q, hp, HG, HQ, rfl, rfl, BW⟩ := hrel
    have N5 := Lib.hid (N4.out.below BW.out)
    have B5 := Lib.hid (chain B4.out BW.out)
    obtain ⟨c0, c1, c2, c3⟩ := N5.out.cells
    have qb : q ≤ 147456 := by have := HQ.out; have : p * pr ≤ 128 * 1152 := Nat.mul_le_mul (by omega) pr1; omega
    by_cases pu : p < un
    · have pi : (p : Int) < (un : Int) := by omega
      obtain ⟨ts, hts, htl, htr⟩ := TS.out p pu
      have HTS := Lib.hid hts; have HTL := Lib.hid htl; have HTR := Lib.hid htr
      clear hts htl htr
      go_wp2_with fail
      refine (KT.out _ p ts HTS.out (HX.out.below B5.out)).mono ?_
      rintro e w6 ⟨A6, k6, n6, rfl, hn6, hR, hb, hd1, hd2⟩
      obtain rfl : n6 = pr := by rw [hn6]; exact HTL.out
      have BW6 := Lib.hid (chain BW.out hb)
      have HR := Lib.hid hR
      clear hb hR hd1 hd2 hn6 c0 c1 c2 c3
      go_wp2_with fail
      go_loopg [15] n6 (fun g s15 wx => ∃ j : Nat, j ≤ n6 ∧ Hid (g = n6 - j) ∧ s15 = .int .i64 (j : Int) ∧ Hid (Below w6.heap.size w6 wx))
      case atStart => exact ⟨0, by omega, by show _ = _; omega, rfl, Below.refl _ _⟩
      case round =>
        obtain ⟨j, hj, HG2, rfl, BJ⟩ := hrel
        by_cases jn : j < n6
        · have ji : (j : Int) < (n6 : Int) := by omega
          have ja : (0 : Int) ≤ (j : Int) := by omega
          obtain ⟨b1, o1, rfl, l1, qq⟩ := HR.out (by rw [HTL.out]; omega)
          obtain ⟨t, ht⟩ : ∃ t, ts[j]? = some t := ⟨_, List.getElem?_eq_getElem (by rw [HTL.out]; exact jn)⟩
          obtain ⟨y0, y1⟩ := t_cells qq ht
          have z0 := (BJ.out.cell (p := ⟨b1, o1 + j * 2, none⟩) l1).trans y0
          have z1 := (BJ.out.cell (p := ⟨b1, o1 + j * 2 + 1, none⟩) l1).trans y1
          obtain ⟨t1, t2, t3, t4⟩ := HTR.out t (List.mem_of_getElem? ht)
          have d1 : decide (t.x < 0) = false := decide_eq_false (by omega)
          have d2 : decide (inn ≤ t.x) = false := decide_eq_false (by omega)
          clear qq y0 y1 ht
          by_cases m0 : mw = 0
          · have d3 : (mw == 0) = true := by rw [m0]; rfl
            have d4 : (t.w != -1) = false := by rw [t3 m0]; rfl
            have d5 : decide (0 < mw) = false := decide_eq_false (by omega)
            clear t3 t4 m0
            go_wp2_with fail
            go_roundg (n6 - (j + 1))
            case measure => have := HG2.out; omega
            case rel => exact ⟨j + 1, by omega, rfl, by go_num, BJ⟩
          · obtain ⟨t5, t6⟩ := t4 (by omega)
            have d3 : (mw == 0) = false := by simpa using m0
            have d5 : decide (0 < mw) = true := decide_eq_true (by omega)
            have d6 : decide (t.w < fa) = false := decide_eq_false (by omega)
            have d7 : decide (fa + mw ≤ t.w) = false := decide_eq_false (by omega)
            clear t3 t4 m0
            go_wp2_with fail
            go_roundg (n6 - (j + 1))
            case measure => have := HG2.out; omega
            case rel => exact ⟨j + 1, by omega, rfl, by go_num, BJ⟩
        · obtain rfl : j = n6 := by omega
          go_wp2_with fail
          go_roundg (un - (p + 1))
          case measure => have := HG.out; omega
          case rel => exact ⟨p + 1, q + j, by omega, rfl, by show _ = _; rw [HQ.out, Nat.succ_mul], by go_num, by go_num, chain BW6.out BJ.out⟩
    · obtain rfl : p = un := by omega
      have hq := HQ.out
      subst hq
      go_wp2_with fail
      refine (KP.out _ (HX.out.below B5.out)).mono ?_
      rintro e w6 ⟨rfl, hb⟩
      have B6 := Lib.hid (chain B5.out hb)
      have N6 := Lib.hid (N5.out.below hb)
      clear hb c0 c1 c2 c3
      obtain ⟨c0, c1, c2, c3⟩ := N6.out.cells
      go_wp2_with fail
      refine (KT.out _ p [] TU.out (HX.out.below B6.out)).mono ?_
      rintro e w7 ⟨A7, k7, n7, rfl, hn7, hR, hb, hd1, hd2⟩
      obtain rfl : n7 = 0 := hn7
      have B7 := Lib.hid (chain B6.out hb)
      have N7 := Lib.hid (N6.out.below hb)
      clear hb hR hd1 hd2 c0 c1 c2 c3
      obtain ⟨c0, c1, c2, c3⟩ := N7.out.cells
      go_wp2_with fail
      refine (KT.out _ (-1) [] TM.out (HX.out.below B7.out)).mono ?_
      rintro e w8 ⟨A8, k8, n8, rfl, hn8, hR, hb, hd1, hd2⟩
      obtain rfl : n8 = 0 := hn8
      have B8 := Lib.hid (chain B7.out hb)
      clear hb hR hd1 hd2
      go_wp2_with fail
      go_ret
      exact ⟨rfl, B8.out⟩

end Go.Proofs.Ytnnebdpmmkjfnaa
