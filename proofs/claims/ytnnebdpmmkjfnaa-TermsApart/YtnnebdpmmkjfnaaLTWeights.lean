/-
  TermsWeights: each weight of a layer stands in as many terms as there are places in a channel that comes out, each time with another place that comes out.
-/
import Derived.Test.YtnnebdpmmkjfnaaLCount
namespace Go.Proofs.Ytnnebdpmmkjfnaa
open Go.RowKit

theorem terms_w {K : Kn} (g : Good K) (k : K.l.k = 1 ∨ K.l.k = 4) {p : Int} (hp : hasK K p = true) {j : Nat} {t : Tm} (ht : (termsK K p)[j]? = some t) :
    t.w = K.a + chI K.u.c K.u.h K.u.x p * perK K + (j : Int) := by
  have hmem := List.mem_of_getElem? ht
  unfold termsK at ht
  unfold perK
  rcases k with k1 | k4
  · rw [if_pos k1] at ht ⊢
    have hj : j < (chanL K.i (rowI K.u.c K.u.h K.u.x p * K.l.t) (colI K.u.c K.u.h K.u.x p * K.l.t) K.l.s.toNat K.i.c.toNat).length := by
      have := (List.getElem?_eq_some_iff.1 ht).1; rwa [seq_len] at this
    rw [seq_get _ _ j _ (List.getElem?_eq_getElem hj)] at ht
    rw [← Option.some.inj ht]
    show K.a + chI K.u.c K.u.h K.u.x p * K.i.c * K.l.s * K.l.s + (j : Int) = _
    rw [show chI K.u.c K.u.h K.u.x p * K.i.c * K.l.s * K.l.s = chI K.u.c K.u.h K.u.x p * (K.i.c * (K.l.s * K.l.s)) by ac_rfl]
  · rw [if_neg (by omega), if_neg (by omega), if_pos k4] at ht ⊢
    have hj : j < (numL K.i.n.toNat).length := by
      have := (List.getElem?_eq_some_iff.1 ht).1; rwa [seq_len] at this
    rw [seq_get _ _ j _ (List.getElem?_eq_getElem hj)] at ht
    rw [← Option.some.inj ht]
    obtain ⟨_, _, hu⟩ := g.dense k4
    have e2 := (of_yes hp).1
    rw [show K.u.h = 1 by rw [hu], show K.u.x = 1 by rw [hu]] at e2
    show K.a + p * K.i.n + (j : Int) = _
    rw [show K.u.h = 1 by rw [hu], show K.u.x = 1 by rw [hu], e2]; simp
theorem met_step {p q H : Nat} (hH : 0 < H) : min (p + 1 - q * H) H = min (p - q * H) H + if p / H = q then 1 else 0 := by
  have e : p / H = q ↔ q * H ≤ p ∧ p < q * H + H := by
    constructor
    · intro h
      subst h
      have h1 := Nat.div_mul_le_self p H
      have h2 := Nat.lt_div_mul_add (a := p) hH
      exact ⟨h1, h2⟩
    · rintro ⟨h1, h2⟩
      have a : q ≤ p / H := (Nat.le_div_iff_mul_le hH).2 h1
      have b : p / H < q + 1 := (Nat.div_lt_iff_lt_mul hH).2 (by rw [Nat.succ_mul]; exact h2)
      omega
  by_cases h : p / H = q
  · rw [if_pos h]
    have := e.1 h
    omega
  · rw [if_neg h]
    have : ¬ (q * H ≤ p ∧ p < q * H + H) := fun x => h (e.2 x)
    omega
/-- How often a weight has been met among the first terms of a place. -/
def hereN (b e j : Nat) : Nat := if b ≤ e ∧ e < b + j then 1 else 0
theorem here_step (b e j : Nat) : hereN b e (j + 1) = hereN b e j + if b + j = e then 1 else 0 := by
  unfold hereN
  by_cases h1 : b ≤ e ∧ e < b + j
  · rw [if_pos h1, if_pos (by omega), if_neg (by omega)]
  · by_cases h2 : b + j = e
    · rw [if_neg h1, if_pos h2, if_pos (by omega)]
    · rw [if_neg h1, if_neg h2, if_neg (by omega)]
theorem here_end {ch L e : Nat} (hL : 0 < L) : hereN (ch * L) e L = if ch = e / L then 1 else 0 := by
  unfold hereN
  by_cases h : ch = e / L
  · subst h
    have h1 := Nat.div_mul_le_self e L
    have h2 := Nat.lt_div_mul_add (a := e) hL
    rw [if_pos rfl, if_pos ⟨h1, h2⟩]
  · rw [if_neg h]
    refine if_neg fun ⟨h1, h2⟩ => h ?_
    have a : ch ≤ e / L := (Nat.le_div_iff_mul_le hL).2 h1
    have b : e / L < ch + 1 := (Nat.div_lt_iff_lt_mul hL).2 (by rw [Nat.succ_mul]; exact h2)
    omega

set_option maxHeartbeats 4000000 in
set_option maxRecDepth 100000 in
theorem law_tweights (c h x : Int) (A : Option Addr) (cA n : Nat) (ls : List Ly) (a : Int) (b : Int) (w : World) (hx : Rl w A ls) (ln : n = ls.length) (ba : 0 ≤ a ∧ a ≤ 255) (bb : 0 ≤ b ∧ b ≤ 65535) :
    Calls Try.prog 9 #[.agg #[.int .i64 c, .int .i64 h, .int .i64 x, .slice A n cA], .int .u8 a, .int .u16 b] w fun e w' => e = .returned (.bool true) ∧ Below w.heap.size w w' := by
  have HX := Lib.hid hx; have LX := Lib.hid ln
  clear hx ln
  obtain ⟨ba0, ba1⟩ := ba
  obtain ⟨bb0, bb1⟩ := bb
  obtain ⟨kk, hkk⟩ : ∃ kk : Nat, a % 8 = kk := ⟨(a % 8).toNat, by omega⟩
  go_enter Try.func9, Try.ntmps9
  go_wp2_with fail
  refine (head6_any _).mono ?_
  rintro e w1 ⟨rfl, hb⟩
  have B1 := Lib.hid (chain ((Below.refl w.heap.size w).alloc (Nat.le_refl _) _) hb)
  have hN := (NB.new w c h x (.slice A n cA)).below hb
  have N1 := Lib.hid hN
  obtain ⟨c0, c1, c2, c3⟩ := hN.cells
  clear hb hN
  by_cases hg : 60 < n
  · have d : decide (60 < (n : Int)) = true := by simp; omega
    go_wp2_with fail
    refine (great_any c h x A cA n _ true d).mono ?_
    rintro e w2 ⟨rfl, hb⟩
    have B2 := Lib.hid (chain B1.out hb)
    clear hb
    go_wp2_with fail
    go_ret
    exact ⟨rfl, B2.out⟩
  have d : decide (60 < (n : Int)) = false := by simp; omega
  have hn : n ≤ 60 := by omega
  have hn1 : n ≤ 1000 := by omega
  go_wp2_with fail
  refine (great_any c h x A cA n _ false d).mono ?_
  rintro e w2 ⟨rfl, hb⟩
  have B2 := Lib.hid (chain B1.out hb)
  have N2 := Lib.hid (N1.out.below hb)
  clear hb B1 N1 c0 c1 c2 c3 hg d
  obtain ⟨c0, c1, c2, c3⟩ := N2.out.cells
  obtain ⟨K, hK⟩ : ∃ K, K = atN ⟨c, h, x, ls⟩ kk := ⟨_, rfl⟩
  obtain ⟨is, his⟩ : ∃ is, is = isB ⟨c, h, x, ls⟩ kk := ⟨_, rfl⟩
  have HK := Lib.hid hK; have HIS := Lib.hid his
  have KZ : Hid (∀ w, Rl w A ls → Calls Try.prog 36 #[.agg #[.int .i64 c, .int .i64 h, .int .i64 x, .slice A n cA], .int .i64 (kk : Int)] w fun e w' => e = .returned (.tuple #[.int .i64 K.i.n, .int .i64 K.u.n, .bool is]) ∧ Below w.heap.size w w') := fun w hx => by
    rw [hK, his]; exact sizes_any c h x A cA n ls kk w hx LX.out hn1
  have KT : Hid (∀ w p ts, termsN ⟨c, h, x, ls⟩ kk p = ts → Rl w A ls → Calls Try.prog 31 #[.agg #[.int .i64 c, .int .i64 h, .int .i64 x, .slice A n cA], .int .i64 (kk : Int), .int .i64 p] w (RowTo tcells ts w)) := fun w p ts hts hx =>
    terms_any c h x A cA n ls kk p ts hts w hx LX.out hn1
  have KS : Hid (∀ w, Rl w A ls → Calls Try.prog 16 #[.agg #[.int .i64 c, .int .i64 h, .int .i64 x, .slice A n cA]] w (ShapesTo ⟨c, h, x, ls⟩ w)) := fun w hx => rshapes_any c h x A cA n ls w hx LX.out hn1
  clear hK his
  go_wp2_with fail
  refine (KZ.out _ (HX.out.below B2.out)).mono ?_
  rintro e w3 ⟨rfl, hb⟩
  have B3 := Lib.hid (chain B2.out hb)
  have N3 := Lib.hid (N2.out.below hb)
  clear hb B2 N2 c0 c1 c2 c3
  obtain ⟨c0, c1, c2, c3⟩ := N3.out.cells
  by_cases hisf : is = false
  · subst hisf
    go_wp2_with fail
    go_ret
    exact ⟨rfl, B3.out⟩
  have hist : is = true := by cases is <;> simp_all
  subst hist
  have GD : Hid (Good K) := by rw [HK.out]; exact good_at HIS.out.symm
  have ISO := Lib.hid (isB_out HIS.out.symm)
  have kkn : kk < n := by have h3 : (kk : Int) < (ls.length : Int) := ISO.out.2.2; have := LX.out; omega
  clear hisf
  have hun := size_bd K.u
  obtain ⟨un, hu⟩ : ∃ un : Nat, K.u.n = un := ⟨K.u.n.toNat, by omega⟩
  obtain ⟨fa, hfa⟩ : ∃ fa, fa = K.a := ⟨_, rfl⟩
  obtain ⟨mw, hmw⟩ : ∃ mw, mw = K.w := ⟨_, rfl⟩
  have fa0 : 0 ≤ fa := by rw [hfa]; exact GD.out.2.2.2.2.1
  have fa1 : fa ≤ 512 := by rw [hfa]; exact GD.out.2.2.2.2.2
  have KOK : KnOk K := by rw [HK.out]; exact at_ok _ _
  have mw0 : 0 ≤ mw := by rw [hmw]; exact KOK.w.1
  have mw1 : mw ≤ 9216 := by rw [hmw]; exact KOK.w.2
  have KW : Hid (∀ w, Rl w A ls → Calls Try.prog 18 #[.agg #[.int .i64 c, .int .i64 h, .int .i64 x, .slice A n cA], .int .i64 (kk : Int)] w fun e w' => e = .returned (.tuple #[.int .i64 fa, .int .i64 mw]) ∧ Below w.heap.size w w') := fun w hx => by
    rw [hfa, hmw, HK.out]; exact rweights_of c h x A cA n ls kk w hx LX.out hn1
  rw [hu]
  have HU := Lib.hid hu; have HFA := Lib.hid hfa; have HMW := Lib.hid hmw
  clear hu hfa hmw KOK
  go_wp2_with fail
  refine (KW.out _ (HX.out.below B3.out)).mono ?_
  rintro e w4 ⟨rfl, hb⟩
  have B4 := Lib.hid (chain B3.out hb)
  have N4 := Lib.hid (N3.out.below hb)
  clear hb B3 N3 c0 c1 c2 c3
  obtain ⟨c0, c1, c2, c3⟩ := N4.out.cells
  by_cases m0 : mw = 0
  · have d3 : (mw == 0) = true := by rw [m0]; rfl
    clear m0
    go_wp2_with fail
    go_ret
    exact ⟨rfl, B4.out⟩
  have d3 : (mw == 0) = false := by simpa using m0
  have mwp : 0 < mw := by omega
  -- the weight's number
  obtain ⟨e, he⟩ : ∃ e : Nat, b % mw = (e : Int) := ⟨(b % mw).toNat, by have := Int.emod_nonneg b (show mw ≠ 0 by omega); omega⟩
  have e1 : (e : Int) < mw := by rw [← he]; exact Int.emod_lt_of_pos _ mwp
  have hkind : K.l.k = 1 ∨ K.l.k = 4 := by
    rcases GD.out.kind with k | k | k | k
    · exact .inl k
    · exfalso; have : K.w = 0 := w_none _ (by omega) (by omega); have := HMW.out; omega
    · exfalso; have : K.w = 0 := w_none _ (by omega) (by omega); have := HMW.out; omega
    · exact .inr k
  have hper := per_bd GD.out
  obtain ⟨pr, hpr⟩ : ∃ pr : Nat, perK K = pr := ⟨(perK K).toNat, by omega⟩
  have hur := right_bd GD.out.ur
  obtain ⟨hh, hhh⟩ : ∃ hh : Nat, K.u.h = hh := ⟨K.u.h.toNat, by omega⟩
  obtain ⟨xx, hxx⟩ : ∃ xx : Nat, K.u.x = xx := ⟨K.u.x.toNat, by omega⟩
  obtain ⟨cc, hcc⟩ : ∃ cc : Nat, K.u.c = cc := ⟨K.u.c.toNat, by omega⟩
  obtain ⟨H, hH⟩ : ∃ H, H = hh * xx := ⟨_, rfl⟩
  have hun2 : un = cc * H := by
    have h1 := HU.out
    rw [Sh.n_eq GD.out.ur, hhh, hxx, hcc, Int.mul_assoc] at h1
    rw [hH]
    have h2 : ((cc * (hh * xx) : Nat) : Int) = (un : Int) := by rw [Int.natCast_mul, Int.natCast_mul]; exact h1
    omega
  have hH0 : 0 < H := by rw [hH]; exact Nat.mul_pos (by omega) (by omega)
  have hH1 : H ≤ 144 := by rw [hH]; exact Nat.mul_le_mul (show hh ≤ 12 by omega) (show xx ≤ 12 by omega)
  have hmw2 : mw = ((cc * pr : Nat) : Int) := by
    rw [HMW.out, Int.natCast_mul, ← hcc, ← hpr]
    rcases hkind with k | k
    · rw [conv_w k]
      unfold perK
      rw [if_pos k]
      obtain ⟨_, _, _, _, _, _, _, hu⟩ := GD.out.conv k
      rw [show K.u.c = K.l.o by rw [hu]]
    · unfold perK
      rw [if_neg (by omega), if_neg (by omega), if_pos k]
      obtain ⟨_, _, hu⟩ := GD.out.dense k
      rw [show K.u.c = K.l.o by rw [hu]]
      exact w_dense _ k
  have hpr0 : 0 < pr := by
    rcases Nat.eq_zero_or_pos pr with h0 | h0
    · rw [h0] at hmw2; simp at hmw2; omega
    · exact h0
  have pr1 : pr ≤ 1152 := by omega
  have un1 : un ≤ 128 := by have := HU.out; omega
  have hq : e / pr < cc := (Nat.div_lt_iff_lt_mul hpr0).2 (by omega)
  have QH : Hid (min (un - e / pr * H) H = H) := by
    show _ = _
    have : (e / pr + 1) * H ≤ cc * H := Nat.mul_le_mul_right H hq
    rw [Nat.succ_mul] at this
    omega
  have TS : Hid (∀ p : Nat, p < un → ∃ ts, termsN ⟨c, h, x, ls⟩ kk p = ts ∧ ts.length = pr ∧ ∀ (j : Nat) (t : Tm), ts[j]? = some t → t.w = fa + ((p / H * pr + j : Nat) : Int)) := fun p hp => by
    have hhk : hasK K p = true := has_yes (by omega) (by have := HU.out; omega)
    refine ⟨termsK K p, ?_, ?_, fun j t ht => ?_⟩
    · have := hhk; rw [HK.out] at this ⊢; exact termsN_is this
    · have := terms_len GD.out (p : Int); omega
    · rw [terms_w GD.out hkind hhk ht, HFA.out, hpr, (of_yes hhk).1, hhh, hxx, ← Int.natCast_mul, ← hH, ← Int.natCast_ediv, Int.natCast_add, Int.natCast_mul]
      omega
  have HHX : Hid ((H : Int) = (hh : Int) * (xx : Int)) := by show _ = _; rw [hH, Int.natCast_mul]
  obtain ⟨Q, hQ⟩ : ∃ Q, Q = e / pr := ⟨_, rfl⟩
  rw [← hQ] at QH hq
  have HQ := Lib.hid hQ; have HPR0 := Lib.hid hpr0; have HH0 := Lib.hid hH0
  have HKH := Lib.hid hhh; have HKX := Lib.hid hxx
  have be : 0 ≤ b % mw := by omega
  have be2 : b % mw ≤ 9216 := by omega
  have mne : ¬ mw = 0 := m0
  have HE := Lib.hid he
  clear hQ hpr hhh hxx hcc hH hun2 hmw2 hq hpr0 hH0 hun hur hper hkind m0 he
  go_wp2_with fail
  refine (KS.out _ (HX.out.below B4.out)).mono ?_
  rintro e w5 ⟨A1, k1, n1, rfl, hn1s, hR, hb, hd1, hd2⟩
  rw [ISO.out.1]
  have B5 := Lib.hid (chain B4.out hb)
  have N5 := Lib.hid (N4.out.below hb)
  rw [shN_ok ISO.out.1] at hR hn1s
  rw [sh_len, ← LX.out] at hn1s
  obtain ⟨bS, oS, rfl, hlS, hcS⟩ := hR (by rw [sh_len]; omega)
  have hkl : kk < ls.length := by rw [← LX.out]; exact kkn
  have hlk := get_ly hkl
  have g2 := sh_get ls ⟨c, h, x⟩ (kk + 1) (by omega)
  rw [show endS ⟨c, h, x⟩ (ls.take (kk + 1)) = K.u by rw [HK.out, at_some ISO.out.1 hlk, end_next hlk]] at g2
  obtain ⟨m, hm⟩ : ∃ m, m = kk + 1 := ⟨_, rfl⟩
  obtain ⟨a0, a1, a2⟩ := sh_at hcS g2
  rw [← hm] at a0 a1 a2
  have HA0 := Lib.hid a0; have HA1 := Lib.hid a1; have HA2 := Lib.hid a2
  have ma : (0 : Int) ≤ (m : Int) := by omega
  have mb : (m : Int) < (n1 : Int) := by omega
  have mb' : m < n1 := by omega
  have v1 : IntKind.i64.wrap ((kk : Int) + 1) = (m : Int) := next_i64 hm (Nat.lt_succ_self kk) (by omega)
  have v2 : wrap64 ((kk : Int) + 1) = (m : Int) := next_wrap hm (Nat.lt_succ_self kk) (by omega)
  have HV1 := Lib.hid v1; have HV2 := Lib.hid v2
  clear hb hd1 hd2 hR hn1s hcS g2 hlk hkl hm v1 v2 a0 a1 a2 B4 N4 c0 c1 c2 c3
  obtain ⟨c0, c1, c2, c3⟩ := N5.out.cells
  go_wp2_with fail
  clear c0 c1 c2 c3
  rw [HE.out]
  clear be be2
  go_loopg [17, 18, 19, 20, 21] un (fun g s17 s18 _ _ _ wx => ∃ p met : Nat, p ≤ un ∧ Hid (g = un - p) ∧ Hid (met = min (p - Q * H) H) ∧ s17 = .int .i64 (met : Int) ∧ s18 = .int .i64 (p : Int) ∧ Hid (Below w5.heap.size w5 wx))
  case atStart => exact ⟨0, 0, by omega, by show _ = _; omega, by show _ = _; omega, rfl, rfl, Below.refl _ _⟩
  case round =>
    obtain ⟨p, met, hp, HG, HM, rfl, rfl, BW⟩ := hrel
    have N6 := Lib.hid (N5.out.below BW.out)
    have B6 := Lib.hid (chain B5.out BW.out)
    obtain ⟨c0, c1, c2, c3⟩ := N6.out.cells
    have mb0 : met ≤ 144 := by have := HM.out; omega
    by_cases pu : p < un
    · have pi : (p : Int) < (un : Int) := by omega
      obtain ⟨ts, hts, htl, htr⟩ := TS.out p pu
      have HTS := Lib.hid hts; have HTL := Lib.hid htl; have HTR := Lib.hid htr
      clear hts htl htr
      go_wp2_with fail
      refine (KT.out _ p ts HTS.out (HX.out.below B6.out)).mono ?_
      rintro e' w7 ⟨A7, k7, n7, rfl, hn7, hR, hb, hd1, hd2⟩
      obtain rfl : n7 = pr := by rw [hn7]; exact HTL.out
      have BW7 := Lib.hid (chain BW.out hb)
      have HR := Lib.hid hR
      clear hb hR hd1 hd2 hn7 c0 c1 c2 c3
      go_wp2_with fail
      go_loopg [20, 21] n7 (fun g s20 s21 wx => ∃ j here : Nat, j ≤ n7 ∧ Hid (g = n7 - j) ∧ Hid (here = hereN (p / H * n7) e j) ∧ s20 = .int .i64 (here : Int) ∧ s21 = .int .i64 (j : Int) ∧ Hid (Below w7.heap.size w7 wx))
      case atStart => exact ⟨0, 0, by omega, by show _ = _; omega, by show _ = _; unfold hereN; rw [if_neg (by omega)], rfl, rfl, Below.refl _ _⟩
      case round =>
        obtain ⟨j, here, hj, HG2, HHE, rfl, rfl, BJ⟩ := hrel
        have hb1 : here ≤ 1 := by rw [HHE.out]; unfold hereN; split <;> omega
        by_cases jn : j < n7
        · have ji : (j : Int) < (n7 : Int) := by omega
          have ja : (0 : Int) ≤ (j : Int) := by omega
          obtain ⟨b1, o1, rfl, l1, qq⟩ := HR.out (by rw [HTL.out]; omega)
          obtain ⟨t, ht⟩ : ∃ t, ts[j]? = some t := ⟨_, List.getElem?_eq_getElem (by rw [HTL.out]; exact jn)⟩
          obtain ⟨y0, y1⟩ := t_cells qq ht
          have z1 := (BJ.out.cell (p := ⟨b1, o1 + j * 2 + 1, none⟩) l1).trans y1
          have htw := HTR.out j t ht
          have HST := Lib.hid (here_step (p / H * n7) e j)
          clear qq y0 y1 ht
          by_cases hw : p / H * n7 + j = e
          · have d4 : (t.w == fa + (e : Int)) = true := by rw [htw, hw]; simp
            rw [if_pos hw] at HST
            clear htw hw
            go_wp2_with fail
            go_roundg (n7 - (j + 1))
            case measure => have := HG2.out; omega
            case rel => exact ⟨j + 1, here + 1, by omega, rfl, by show _ = _; rw [HST.out, HHE.out], by go_num, by go_num, BJ⟩
          · have d4 : (t.w == fa + (e : Int)) = false := by rw [htw]; exact beq_eq_false_iff_ne.2 fun hx => hw (by omega)
            rw [if_neg hw] at HST
            clear htw hw
            go_wp2_with fail
            go_roundg (n7 - (j + 1))
            case measure => have := HG2.out; omega
            case rel => exact ⟨j + 1, here, by omega, rfl, by show _ = _; rw [HST.out, HHE.out]; omega, by go_num, by go_num, BJ⟩
        · obtain rfl : j = n7 := by omega
          have hq2 := HHE.out
          rw [here_end HPR0.out, ← HQ.out] at hq2
          have HQ2 := Lib.hid hq2
          have d5 : decide ((1 : Int) < (here : Int)) = false := decide_eq_false (by omega)
          have d6 : decide (1 < here) = false := decide_eq_false (by omega)
          clear hq2
          go_wp2_with fail
          go_roundg (un - (p + 1))
          case measure => have := HG.out; omega
          case rel => exact ⟨p + 1, met + here, by omega, rfl, by show _ = _; rw [met_step HH0.out, ← HM.out, ← HQ2.out], by go_num, by go_num, chain BW7.out BJ.out⟩
    · obtain rfl : p = un := by omega
      have hmet : met = H := by rw [HM.out]; exact QH.out
      subst hmet
      have a1 := (BW.out.cell (p := ⟨bS, oS + m * 3 + 1, none⟩) hlS).trans HA1.out
      have a2 := (BW.out.cell (p := ⟨bS, oS + m * 3 + 2, none⟩) hlS).trans HA2.out
      rw [HKH.out] at a1
      rw [HKX.out] at a2
      have v1 := HV1.out
      have v2 := HV2.out
      have q0 : (0 : Int) ≤ (hh : Int) * (xx : Int) := by rw [← HHX.out]; omega
      have q1 : (hh : Int) * (xx : Int) ≤ 144 := by rw [← HHX.out]; omega
      have d7 : ((met : Int) == (hh : Int) * (xx : Int)) = true := by rw [HHX.out]; simp
      have V3 : IntKind.i64.wrap ((hh : Int) * (xx : Int)) = (hh : Int) * (xx : Int) := IntWalk.i64_in _ (by omega)
      go_wp2_with fail
      go_quiet (fail)
      go_wp2_with fail
      go_ret
      exact ⟨rfl, chain_drewN B6.out _⟩

end Go.Proofs.Ytnnebdpmmkjfnaa
