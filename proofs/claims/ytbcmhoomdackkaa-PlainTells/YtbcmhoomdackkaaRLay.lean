/-
  What the document's own number answers: the one that comes out at a place. What the document's own Layer and F answer.
-/
import Derived.Test.YtbcmhoomdackkaaULaw
import Derived.Test.YtbcmhoomdackkaaRTerms
import Derived.Test.YtbcmhoomdackkaaRefA
namespace Go.Proofs.Ytbcmhoomdackkaa
open Go.RowKit

set_option maxHeartbeats 4000000 in
set_option maxRecDepth 100000 in
theorem rnum_core (c h x : Int) (A X W : Option Addr) (cA n cX nx cW nw : Nat) (ls : List Ly) (xs ws : List UInt64) (i p : Nat) (ts : List Tm) (ps : List Int) (w : World)
    (hx : Rl w A ls) (ln : n = ls.length) (hn : n ≤ 1000) (hX : Rg ucells w X xs) (lx : nx = xs.length) (hW : Rg ucells w W ws) (lw : nw = ws.length)
    (hts : termsN ⟨c, h, x, ls⟩ (i : Int) (p : Int) = ts) (hps : partsN ⟨c, h, x, ls⟩ (i : Int) (p : Int) = ps) (hl : ts.length ≤ 5000) (hl2 : ps.length ≤ 5000) (hr : ∀ t ∈ ts, 0 ≤ t.x ∧ t.x < (nx : Int) ∧ t.w < (nw : Int)) (hr2 : ∀ t ∈ ps, 0 ≤ t ∧ t < (nx : Int)) :
    Calls Try.prog 48 #[.agg #[.int .i64 c, .int .i64 h, .int .i64 x, .slice A n cA], .int .i64 (i : Int), .int .i64 (p : Int), .slice X nx cX, .slice W nw cW] w fun e w' => e = .returned (.int .u64 (uz (sumU (ts.map (termR xs ws)) + sumU (ps.map (ug xs))))) ∧ Below w.heap.size w w' := by
  have HX := Lib.hid hx; have LN := Lib.hid ln; have HXR := Lib.hid hX; have LX := Lib.hid lx; have HWR := Lib.hid hW; have LW := Lib.hid lw; have HTS := Lib.hid hts; have HPS := Lib.hid hps; have HR := Lib.hid hr; have HR2 := Lib.hid hr2; have HL2 := Lib.hid hl2
  clear hx ln hX lx hW lw hts hps hr hr2 hl2
  go_enter Try.func48, Try.ntmps48
  go_wp2_with fail
  refine (rterms_any c h x A cA n ls (i : Int) (p : Int) _ (HX.out.below ((Below.refl _ w).alloc (Nat.le_refl _) _)) LN.out hn).mono ?_
  rintro e w1 ⟨A1, k1, n1, rfl, hn1, hR1, hb1, hd1, hd2⟩
  rw [HTS.out] at hn1 hR1
  have B1 := Lib.hid (chain ((Below.refl w.heap.size w).alloc (Nat.le_refl _) _) hb1)
  have N1 := Lib.hid ((NB.new w c h x (.slice A n cA)).below hb1)
  have R1 := Lib.hid hR1; have L1 := Lib.hid hn1
  have n5 : n1 ≤ 5000 := by omega
  clear hb1 hR1 hd1 hd2 hn1 hl
  go_wp2_with fail
  go_loopg [11, 13] n1 (fun g s6 s14 wx => ∃ k : Nat, k ≤ n1 ∧ Hid (g = n1 - k) ∧ s6 = .int .u64 (uz (sumU ((ts.take k).map (termR xs ws)))) ∧ s14 = .int .i64 (k : Int) ∧ Hid (Below w1.heap.size w1 wx))
  case atStart => exact ⟨0, by omega, by show _ = _; omega, rfl, rfl, Below.refl _ _⟩
  case round =>
    obtain ⟨k, hk, HG, rfl, rfl, BK⟩ := hrel
    obtain ⟨s, hs⟩ : ∃ s, s = sumU ((ts.take k).map (termR xs ws)) := ⟨_, rfl⟩
    rw [← hs]
    have HS := Lib.hid hs
    clear hs
    by_cases kn : k < n1
    · have ki : (k : Int) < (n1 : Int) := by omega
      obtain ⟨b1, o1, rfl, l1, q1⟩ := R1.out (by rw [← L1.out]; omega)
      obtain ⟨t, ht⟩ : ∃ t, ts[k]? = some t := ⟨_, List.getElem?_eq_getElem (by rw [← L1.out]; exact kn)⟩
      obtain ⟨y0, y1⟩ := t_cells2 q1 ht
      have z0 := (BK.out.cell (p := ⟨b1, o1 + k * 2, none⟩) l1).trans y0
      have z1 := (BK.out.cell (p := ⟨b1, o1 + k * 2 + 1, none⟩) l1).trans y1
      obtain ⟨r1, r2, r4⟩ := HR.out t (List.mem_of_getElem? ht)
      have HT := Lib.hid ht
      obtain ⟨tx, tw⟩ := t
      obtain ⟨jx, rfl⟩ : ∃ jx : Nat, tx = jx := ⟨tx.toNat, by have : 0 ≤ tx := r1; omega⟩
      have r2 : (jx : Int) < (nx : Int) := r2
      have r4 : tw < (nw : Int) := r4
      have z0 : wr.cell? ⟨b1, o1 + k * 2, none⟩ = some (.int .i64 (jx : Int)) := z0
      have z1 : wr.cell? ⟨b1, o1 + k * 2 + 1, none⟩ = some (.int .i64 tw) := z1
      obtain ⟨b2, o2, rfl, l2, q2⟩ := HXR.out (by rw [← LX.out]; omega)
      have BW := Lib.hid (chain B1.out BK.out)
      have v2 := (BW.out.cell (p := ⟨b2, o2 + jx, none⟩) l2).trans (u_cell q2 (show jx < xs.length by rw [← LX.out]; omega))
      obtain ⟨ux, hux⟩ : ∃ u, u = ug xs (jx : Nat) := ⟨_, rfl⟩
      rw [← hux] at v2
      have HUX := Lib.hid hux
      clear q1 q2 y0 y1 ht r1 hux
      by_cases neg : tw < 0
      · have d : decide (tw < 0) = true := decide_eq_true neg
        have HE : Hid (termR xs ws ⟨(jx : Int), tw⟩ = ux * ux) := by show _ = _; unfold termR; rw [if_pos neg, HUX.out]
        clear r4
        go_wp2_with fail
        go_quiet (fail)
        go_wp2_with fail
        go_roundg (n1 - (k + 1))
        case measure => have := HG.out; omega
        case rel => exact ⟨k + 1, by omega, rfl, by rw [uz_mul, uz_add, sum_next _ HT.out, ← HS.out, HE.out], by go_num, below_drewN BK.out _⟩
      · have d : decide (tw < 0) = false := decide_eq_false neg
        have HE0 : Hid (termR xs ws ⟨(jx : Int), tw⟩ = ux * ug ws tw) := by show _ = _; unfold termR; rw [if_neg neg, HUX.out]
        obtain ⟨jw, rfl⟩ : ∃ jw : Nat, tw = jw := ⟨tw.toNat, by omega⟩
        obtain ⟨b3, o3, rfl, l3, q3⟩ := HWR.out (by rw [← LW.out]; omega)
        have v3 := (BW.out.cell (p := ⟨b3, o3 + jw, none⟩) l3).trans (u_cell q3 (show jw < ws.length by rw [← LW.out]; omega))
        obtain ⟨uw, huw⟩ : ∃ u, u = ug ws (jw : Nat) := ⟨_, rfl⟩
        rw [← huw] at v3 HE0
        clear q3 huw neg
        go_wp2_with fail
        go_quiet (fail)
        go_wp2_with fail
        go_roundg (n1 - (k + 1))
        case measure => have := HG.out; omega
        case rel => exact ⟨k + 1, by omega, rfl, by rw [uz_mul, uz_add, sum_next _ HT.out, ← HS.out, HE0.out], by go_num, below_drewN BK.out _⟩
    · obtain rfl : k = n1 := by omega
      have e : ts.take k = ts := by rw [L1.out, List.take_length]
      have hs := HS.out
      rw [e] at hs
      have HS2 := Lib.hid hs
      have BW := Lib.hid (chain B1.out BK.out)
      have N2 := Lib.hid (N1.out.below BK.out)
      obtain ⟨c0, c1, c2, c3⟩ := N2.out.cells
      clear hs e HS
      go_wp2_with fail
      refine (rparts_any c h x A cA n ls (i : Int) (p : Int) _ (HX.out.below BW.out) LN.out hn).mono ?_
      rintro e w2 ⟨A2, k2, n2, rfl, hn2, hR2, hb2, hd1, hd2⟩
      rw [HPS.out] at hn2 hR2
      have B2 := Lib.hid (chain BW.out hb2)
      have R2 := Lib.hid hR2; have L2 := Lib.hid hn2
      have n6 : n2 ≤ 5000 := by rw [hn2]; exact HL2.out
      clear hb2 hR2 hd1 hd2 hn2 c0 c1 c2 c3
      go_wp2_with fail
      go_loopg [11, 15] n2 (fun g s6 s14 wx => ∃ k : Nat, k ≤ n2 ∧ Hid (g = n2 - k) ∧ s6 = .int .u64 (uz (s + sumU ((ps.take k).map (ug xs)))) ∧ s14 = .int .i64 (k : Int) ∧ Hid (Below w2.heap.size w2 wx))
      case atStart => exact ⟨0, by omega, by show _ = _; omega, by simp [sumU], rfl, Below.refl _ _⟩
      case round =>
        obtain ⟨q, hq, HG2, rfl, rfl, BQ⟩ := hrel
        obtain ⟨s3, hs3⟩ : ∃ s3, s3 = s + sumU ((ps.take q).map (ug xs)) := ⟨_, rfl⟩
        rw [← hs3]
        have HS3 := Lib.hid hs3
        clear hs3
        by_cases qn : q < n2
        · have qi : (q : Int) < (n2 : Int) := by omega
          obtain ⟨b1, o1, rfl, l1, q1⟩ := R2.out (by rw [← L2.out]; omega)
          obtain ⟨t, ht⟩ : ∃ t, ps[q]? = some t := ⟨_, List.getElem?_eq_getElem (by rw [← L2.out]; exact qn)⟩
          have z0 := (BQ.out.cell (p := ⟨b1, o1 + q, none⟩) l1).trans (i_cell q1 ht)
          obtain ⟨r1, r2⟩ := HR2.out t (List.mem_of_getElem? ht)
          have HT := Lib.hid ht
          obtain ⟨jx, rfl⟩ : ∃ jx : Nat, t = jx := ⟨t.toNat, by omega⟩
          obtain ⟨b2, o2, rfl, l2, q2⟩ := HXR.out (by rw [← LX.out]; omega)
          have BZ := Lib.hid (chain B2.out BQ.out)
          have v2 := (BZ.out.cell (p := ⟨b2, o2 + jx, none⟩) l2).trans (u_cell q2 (show jx < xs.length by rw [← LX.out]; omega))
          obtain ⟨ux, hux⟩ : ∃ u, u = ug xs (jx : Nat) := ⟨_, rfl⟩
          rw [← hux] at v2
          have HUX := Lib.hid hux
          clear q1 q2 ht r1 hux
          go_wp2_with fail
          go_roundg (n2 - (q + 1))
          case measure => have := HG2.out; omega
          case rel => exact ⟨q + 1, by omega, rfl, by rw [uz_add, sum_next _ HT.out, ← UInt64.add_assoc, ← HS3.out, HUX.out], by go_num, BQ⟩
        · obtain rfl : q = n2 := by omega
          have e : ps.take q = ps := by rw [L2.out, List.take_length]
          have hs := HS3.out
          rw [e, HS2.out] at hs
          have HS4 := Lib.hid hs
          clear hs e
          go_wp2_with fail
          go_ret
          exact ⟨by rw [HS4.out]; rfl, chain B2.out BQ.out⟩

theorem rnum_any (c h x : Int) (A X W : Option Addr) (cA n cX nx cW nw : Nat) (ls : List Ly) (xs ws : List UInt64) (i p : Nat) (K : Kn) (w : World)
    (hx : Rl w A ls) (ln : n = ls.length) (hn : n ≤ 1000) (hX : Rg ucells w X xs) (lx : nx = xs.length) (hW : Rg ucells w W ws) (lw : nw = ws.length) (hE : errN ⟨c, h, x, ls⟩ = 0) (hi : i < n) (hK : K = atN ⟨c, h, x, ls⟩ (i : Nat)) (hxn : (nx : Int) = K.i.n) (hwn : (nw : Int) = totW (knN ⟨c, h, x, ls⟩)) (hp : (p : Int) < K.u.n) :
    Calls Try.prog 48 #[.agg #[.int .i64 c, .int .i64 h, .int .i64 x, .slice A n cA], .int .i64 (i : Int), .int .i64 (p : Int), .slice X nx cX, .slice W nw cW] w fun e w' => e = .returned (.int .u64 (uz (numK K xs ws (p : Nat)))) ∧ Below w.heap.size w w' := by
  have g : Good K := by rw [hK]; exact good_at (isB_yes ⟨hE, by omega, by show (i : Int) < (ls.length : Int); omega⟩)
  have haw : K.a + K.w ≤ (nw : Int) := by rw [hwn, hK]; exact aw_le hE (by omega)
  have hh : hasK K (p : Nat) = true := has_yes (by omega) hp
  have hlen := terms_len g (p : Nat)
  have hper := per_bd g
  obtain ⟨p1, p2⟩ := parts_rng g hh
  have kw : 0 ≤ K.w := by
    have KOK : KnOk K := by rw [hK]; exact at_ok _ _
    exact KOK.w.1
  have := rnum_core c h x A X W cA n cX nx cW nw ls xs ws i p (termsK K (p : Nat)) (partsK K (p : Nat)) w hx ln hn hX lx hW lw (by have := hh; rw [hK] at this ⊢; exact termsN_is this) (by have := hh; rw [hK] at this ⊢; exact if_pos this) (by omega) p1 (fun t ht => by
    obtain ⟨h1, h2, h3, h4⟩ := terms_rng g hh t ht
    by_cases k0 : K.w = 0
    · have := h3 k0; omega
    · have := h4 (by omega); omega) (fun t ht => by have := p2 t ht; omega)
  rw [← num_ref g hh]
  exact this

end Go.Proofs.Ytbcmhoomdackkaa

namespace Go.Proofs.Ytbcmhoomdackkaa
open Go.RowKit

set_option maxHeartbeats 4000000 in
set_option maxRecDepth 100000 in
theorem rlay7_any (c h x : Int) (A X W : Option Addr) (cA n cX nx cW nw : Nat) (ls : List Ly) (xs ws us : List UInt64) (i : Int) (r : Bool) (w : World) (hx : Rl w A ls) (ln : n = ls.length) (hn : n ≤ 1000) (hX : Rg ucells w X xs) (lx : nx = xs.length) (hW : Rg ucells w W ws) (lw : nw = ws.length) (hus : layN ⟨c, h, x, ls⟩ i xs ws = us) (hr : okL ⟨c, h, x, ls⟩ i xs ws = r) :
    Calls Try.prog 27 #[.agg #[.int .i64 c, .int .i64 h, .int .i64 x, .slice A n cA], .int .i64 i, .slice X nx cX, .slice W nw cW] w (PairTo us r w) := by
  obtain ⟨i0, hi, hz0, hz1, hz2⟩ := info_parts Try.info51
  have HX := Lib.hid hx; have LX := Lib.hid ln; have HXR := Lib.hid hX; have LXX := Lib.hid lx; have HWR := Lib.hid hW; have LWW := Lib.hid lw
  have NO : Hid (okL ⟨c, h, x, ls⟩ i xs ws = false → r = false ∧ us = []) := fun e => ⟨hr.symm.trans e, by rw [← hus]; exact lay_no e⟩
  have HUS := Lib.hid hus; have HR := Lib.hid hr
  obtain ⟨er, her⟩ : ∃ er, er = errN ⟨c, h, x, ls⟩ := ⟨_, rfl⟩
  obtain ⟨tw, htw⟩ : ∃ tw, tw = totW (knN ⟨c, h, x, ls⟩) := ⟨_, rfl⟩
  have HER := Lib.hid her; have HTW := Lib.hid htw
  clear hx ln hX lx hW lw hus hr her htw
  go_enter Try.func27, Try.ntmps27
  go_wp2_with fail
  refine (rshapes_any c h x A cA n ls _ (HX.out.below ((Below.refl _ w).alloc (Nat.le_refl _) _)) LX.out hn).mono ?_
  rintro e w1 ⟨A1, k1, n1, rfl, hn1, hR, hb, hd1, hd2⟩
  rw [← HER.out]
  have B1 := Lib.hid (chain ((Below.refl w.heap.size w).alloc (Nat.le_refl _) _) hb)
  have N1 := Lib.hid ((NB.new w c h x (.slice A n cA)).below hb)
  have R1 := Lib.hid hR; have HN1 := Lib.hid hn1
  obtain ⟨c0, c1, c2, c3⟩ := N1.out.cells
  clear hb hd1 hd2 hR hn1
  go_wp2_with fail
  refine (rall_of c h x A cA n ls _ (HX.out.below B1.out) LX.out hn).mono ?_
  rintro e w2 ⟨rfl, hb⟩
  rw [← HTW.out]
  have B2 := Lib.hid (chain B1.out hb)
  have N2 := Lib.hid (N1.out.below hb)
  have R2 := Lib.hid (R1.out.below hb)
  clear hb c0 c1 c2 c3 B1 N1 R1
  obtain ⟨c0, c1, c2, c3⟩ := N2.out.cells
  by_cases h0 : ¬ er = 0
  · have b0 : (er != 0) = true := by simpa using h0
    obtain ⟨rfl, rfl⟩ := NO.out (decide_eq_false fun q => h0 (HER.out.trans q.1.1))
    clear h0
    go_wp2_with fail
    go_ret2
    exact ⟨none, 0, 0, rfl, rfl, Rg.nil _ _ _, B2.out, Nat.le_refl _, Nat.zero_le _⟩
  have h0 : er = 0 := by omega
  have b0 : (er != 0) = false := by rw [h0]; rfl
  have he : errN ⟨c, h, x, ls⟩ = 0 := HER.out.symm.trans h0
  by_cases i0' : i < 0
  · have d0 : decide (i < 0) = true := decide_eq_true i0'
    obtain ⟨rfl, rfl⟩ := NO.out (decide_eq_false fun q => by omega)
    clear h0 he
    go_wp2_with fail
    go_ret2
    exact ⟨none, 0, 0, rfl, rfl, Rg.nil _ _ _, B2.out, Nat.le_refl _, Nat.zero_le _⟩
  have d0 : decide (i < 0) = false := decide_eq_false i0'
  by_cases i1 : (n : Int) ≤ i
  · have d1 : decide ((n : Int) ≤ i) = true := decide_eq_true i1
    obtain ⟨rfl, rfl⟩ := NO.out (decide_eq_false fun q => by have q2 : i < (ls.length : Int) := q.1.2.2; have := LX.out; omega)
    clear h0 he
    go_wp2_with fail
    go_ret2
    exact ⟨none, 0, 0, rfl, rfl, Rg.nil _ _ _, B2.out, Nat.le_refl _, Nat.zero_le _⟩
  have d1 : decide ((n : Int) ≤ i) = false := decide_eq_false i1
  obtain ⟨j, rfl⟩ : ∃ j : Nat, i = j := ⟨i.toNat, by omega⟩
  have jn : j < n := by omega
  have d2 : decide (n ≤ j) = false := by simp; omega
  have hR := R2.out
  have hn1 := HN1.out
  rw [shN_ok he] at hR hn1
  rw [sh_len, ← LX.out] at hn1
  obtain ⟨bS, oS, rfl, hlS, hcS⟩ := hR (by rw [sh_len]; omega)
  have hjl : j < ls.length := by rw [← LX.out]; exact jn
  have hl := get_ly hjl
  obtain ⟨K, hK⟩ : ∃ K, K = atN ⟨c, h, x, ls⟩ (j : Int) := ⟨_, rfl⟩
  have hKe := hK.trans (at_some he hl)
  have g1 := sh_get ls ⟨c, h, x⟩ j (by omega)
  rw [show endS ⟨c, h, x⟩ (ls.take j) = K.i by rw [hKe]] at g1
  have g2 := sh_get ls ⟨c, h, x⟩ (j + 1) (by omega)
  rw [show endS ⟨c, h, x⟩ (ls.take (j + 1)) = K.u by rw [hKe, run_end c h x ls hl]] at g2
  obtain ⟨y0, y1, y2⟩ := sh_at hcS g1
  obtain ⟨a4, a5, a6⟩ := sh_at hcS g2
  obtain ⟨m, hm⟩ : ∃ m, m = j + 1 := ⟨_, rfl⟩
  rw [← hm] at a4 a5 a6
  have GD : Good K := by rw [hK]; exact good_at (isB_yes ⟨he, by omega, by show (j : Int) < (ls.length : Int); omega⟩)
  have ja : (0 : Int) ≤ (j : Int) := by omega
  have jb : (j : Int) < (n1 : Int) := by omega
  have ma : (0 : Int) ≤ (m : Int) := by omega
  have mb : (m : Int) < (n1 : Int) := by omega
  have jb' : j < n1 := by omega
  have mb' : m < n1 := by omega
  have v1 : IntKind.i64.wrap ((j : Int) + 1) = (m : Int) := next_i64 hm (Nat.lt_succ_self j) (by omega)
  have v2 : wrap64 ((j : Int) + 1) = (m : Int) := next_wrap hm (Nat.lt_succ_self j) (by omega)
  have PI : Hid (∀ w, Calls Try.prog 21 #[.agg #[.int .i64 K.i.c, .int .i64 K.i.h, .int .i64 K.i.x]] w fun e w' => e = .returned (.int .i64 K.i.n) ∧ Below w.heap.size w w') := fun w => rsize_any _ _ _ w
  have PS : Hid (∀ w, Calls Try.prog 21 #[.agg #[.int .i64 K.u.c, .int .i64 K.u.h, .int .i64 K.u.x]] w fun e w' => e = .returned (.int .i64 K.u.n) ∧ Below w.heap.size w w') := fun w => rsize_any _ _ _ w
  have HK := Lib.hid hK; have HE := Lib.hid he
  obtain ⟨kn, hkn⟩ : ∃ kn, kn = K.i.n := ⟨_, rfl⟩
  have HKN := Lib.hid hkn
  have un := size_bd K.u
  obtain ⟨ku, hku⟩ : ∃ ku : Nat, K.u.n = ku := ⟨K.u.n.toNat, by omega⟩
  have ku8 : ku ≤ 128 := by omega
  have HKU := Lib.hid hku
  rw [← hkn] at PI
  rw [hku] at PS
  clear hK hKe g1 g2 hcS hl he hn1 hm hkn GD un hku hR h0
  go_wp2_with fail
  refine (PI.out _).mono ?_
  rintro e w4 ⟨rfl, hb4⟩
  have B4 := Lib.hid (chain B2.out hb4)
  have N4 := Lib.hid (N2.out.below hb4)
  have a4 := (hb4.cell (p := ⟨bS, oS + m * 3, none⟩) hlS).trans a4
  have a5 := (hb4.cell (p := ⟨bS, oS + m * 3 + 1, none⟩) hlS).trans a5
  have a6 := (hb4.cell (p := ⟨bS, oS + m * 3 + 2, none⟩) hlS).trans a6
  have A4 := Lib.hid a4; have A5 := Lib.hid a5; have A6 := Lib.hid a6
  have hlS := Nat.lt_of_lt_of_le hlS hb4.size
  clear hb4 y0 y1 y2 c0 c1 c2 c3 B2 N2 R2 a4 a5 a6
  by_cases hxn : ¬ (nx : Int) = kn
  · have b1 : ((nx : Int) != kn) = true := by simpa using hxn
    obtain ⟨rfl, rfl⟩ := NO.out (decide_eq_false fun q => hxn (by rw [LXX.out, HKN.out, HK.out]; exact q.2.1))
    clear hxn
    go_wp2_with fail
    go_ret2
    exact ⟨none, 0, 0, rfl, rfl, Rg.nil _ _ _, B4.out, Nat.le_refl _, Nat.zero_le _⟩
  have hxn : (nx : Int) = kn := Decidable.not_not.1 hxn
  have b1 : ((nx : Int) != kn) = false := by rw [hxn]; simp
  by_cases hwn : ¬ (nw : Int) = tw
  · have b2 : ((nw : Int) != tw) = true := by simpa using hwn
    obtain ⟨rfl, rfl⟩ := NO.out (decide_eq_false fun q => hwn (by rw [LWW.out, HTW.out]; exact q.2.2))
    clear hxn hwn
    go_wp2_with fail
    go_ret2
    exact ⟨none, 0, 0, rfl, rfl, Rg.nil _ _ _, B4.out, Nat.le_refl _, Nat.zero_le _⟩
  have hwn : (nw : Int) = tw := Decidable.not_not.1 hwn
  have b2 : ((nw : Int) != tw) = false := by rw [hwn]; simp
  have hok : okL ⟨c, h, x, ls⟩ (j : Int) xs ws = true := decide_eq_true ⟨⟨HE.out, by omega, by show (j : Int) < (ls.length : Int); rw [← LX.out]; omega⟩, by rw [← LXX.out, ← HK.out, ← HKN.out]; exact hxn, by rw [← LWW.out, ← HTW.out]; exact hwn⟩
  obtain rfl : r = true := HR.out.symm.trans hok
  have hux : us = layK K xs ws := by rw [← HUS.out, HK.out]; exact lay_yes hok
  have UL : Hid (ku = us.length) := by show _ = _; rw [hux, lay_len, HKU.out]; simp
  have UG : Hid (∀ p : Nat, p < ku → us[p]? = some (numK K xs ws (p : Nat))) := fun p hp => by rw [hux]; exact lay_get (by rw [HKU.out]; simpa using hp)
  have NU : Hid (∀ (p : Nat) (w' : World), p < ku → Rl w' A ls → Rg ucells w' X xs → Rg ucells w' W ws → Calls Try.prog 48 #[.agg #[.int .i64 c, .int .i64 h, .int .i64 x, .slice A n cA], .int .i64 (j : Int), .int .i64 (p : Int), .slice X nx cX, .slice W nw cW] w' fun e w'' => e = .returned (.int .u64 (uz (numK K xs ws (p : Nat)))) ∧ Below w'.heap.size w' w'') := fun p w' hp z1 z2 z3 =>
    rnum_any c h x A X W cA n cX nx cW nw ls xs ws j p K w' z1 LX.out hn z2 LXX.out z3 LWW.out HE.out jn HK.out (by rw [hxn, HKN.out]) (by rw [hwn, HTW.out]) (by rw [HKU.out]; omega)
  clear hxn hok hwn hux
  go_wp2_with fail
  go_loopg [14, 15] ku (fun g s14 s15 wx => ∃ k : Nat, k ≤ ku ∧ Hid (g = ku - k) ∧ s15 = .int .i64 (k : Int) ∧ Hid (wx.ownsRow w4.heap.size 51 1 s14 k ((us.take k).flatMap ucells)) ∧ Hid (Below w4.heap.size w4 wx))
  case atStart => exact ⟨0, by omega, by show _ = _; omega, rfl, World.ownsRow_nil _ _ _ _, Below.refl _ _⟩
  case round =>
    obtain ⟨k, hk, HG, rfl, OW, BK⟩ := hrel
    have a4 := (BK.out.cell (p := ⟨bS, oS + m * 3, none⟩) hlS).trans A4.out
    have a5 := (BK.out.cell (p := ⟨bS, oS + m * 3 + 1, none⟩) hlS).trans A5.out
    have a6 := (BK.out.cell (p := ⟨bS, oS + m * 3 + 2, none⟩) hlS).trans A6.out
    go_wp2_with fail
    refine (PS.out _).mono ?_
    rintro e w6 ⟨rfl, hb6⟩
    have B6 := Lib.hid (chain BK.out hb6)
    have O6 := Lib.hid (own_belowE OW.out hb6)
    have BW := Lib.hid (chain B4.out B6.out)
    have NW := Lib.hid (N4.out.below B6.out)
    clear hb6 a4 a5 a6 OW BK
    by_cases km : k < ku
    · have ki : (k : Int) < (ku : Int) := by omega
      obtain ⟨c0, c1, c2, c3⟩ := NW.out.cells
      go_wp2_with fail
      refine (NU.out k _ km (HX.out.below BW.out) (HXR.out.below BW.out) (HWR.out.below BW.out)).mono ?_
      rintro e w7 ⟨rfl, hb7⟩
      have B7 := Lib.hid (chain B6.out hb7)
      have O7 := Lib.hid (own_belowE O6.out hb7)
      obtain ⟨u, hu⟩ : ∃ u, u = numK K xs ws (k : Nat) := ⟨_, rfl⟩
      rw [← hu]
      have HU := Lib.hid (UG.out k km)
      rw [← hu] at HU
      have hs := B7.out.size
      clear hb7 hu c0 c1 c2 c3 O6 B6
      go_wp2_with (at_builtin; refine wpList_append_own _ rfl _ _ 44 rfl w4.heap.size 51 i0 (.int .u64 0) 1 8 Try.underlying44 hi hz0 hz1 hz2 rfl (by decide) _ _ _ rfl (O7.out.alloc _) ⟨w7.heap.size, 0, none⟩ 1 1 [.int .u64 (uz u)] rfl rfl ?c1 ?c2 ?c3 ?c4 ?c5 ?_)
      case c1 =>
        intro j u hj
        match j, hj with
        | 0, hj => simp at hj; subst hj; simp [Addr.add]
      case c2 => intro u hu; simp at hu; subst hu; rfl
      case c3 => unfold maxLen; omega
      case c4 => omega
      case c5 => simp; omega
      intro v' w8 hown2 hgrow _
      have HO2 : Hid (w8.ownsRow w4.heap.size 51 1 v' (k + 1) ((us.take (k + 1)).flatMap ucells)) := by
        show World.ownsRow _ _ _ _ _ _ _
        rw [take_next HU.out, List.flatMap_append]
        simp only [List.flatMap_cons, List.flatMap_nil, List.append_nil, ucells]
        exact hown2
      have HB2 : Hid (Below w4.heap.size w4 w8) := (B7.out.alloc hs _).grown hgrow (by simp; omega) (fun q hqq => (O7.out.lt _ hqq).1)
      clear hown2 hgrow O7 B7 hs
      go_wp2_with fail
      go_roundg (ku - (k + 1))
      case measure => have := HG.out; omega
      case rel => exact ⟨k + 1, by omega, rfl, by go_num, HO2, HB2⟩
    · obtain rfl : k = ku := by omega
      have hf := O6.out
      rw [List.take_of_length_le (by rw [← UL.out]; exact Nat.le_refl _)] at hf
      obtain ⟨A', c', rfl, e1, hr, e3, e4⟩ := own_cap ucells_len (by decide) hf
      have HR2 := Lib.hid hr; have E3 := Lib.hid e3; have E4 := Lib.hid e4
      clear hr hf e1 e3 e4
      go_wp2_with fail
      go_ret2
      exact ⟨A', c', k, rfl, UL.out, HR2.out, BW.out, E3.out, E4.out⟩

set_option maxHeartbeats 4000000 in
set_option maxRecDepth 100000 in
theorem rF_any (c h x : Int) (A X W : Option Addr) (cA n cX nx cW nw : Nat) (ls : List Ly) (xs ws us : List UInt64) (r : Bool) (w : World) (hx : Rl w A ls) (ln : n = ls.length) (hn : n ≤ 1000) (hX : Rg ucells w X xs) (lx : nx = xs.length) (hW : Rg ucells w W ws) (lw : nw = ws.length) (hus : fN ⟨c, h, x, ls⟩ xs ws = us) (hr : okF ⟨c, h, x, ls⟩ xs ws = r) :
    Calls Try.prog 29 #[.agg #[.int .i64 c, .int .i64 h, .int .i64 x, .slice A n cA], .slice X nx cX, .slice W nw cW] w (PairTo us r w) := by
  obtain ⟨i0, hi, hz0, hz1, hz2⟩ := info_parts Try.info51
  have HX := Lib.hid hx; have LX := Lib.hid ln; have HXR := Lib.hid hX; have LXX := Lib.hid lx; have HWR := Lib.hid hW; have LWW := Lib.hid lw
  have NO : Hid (okF ⟨c, h, x, ls⟩ xs ws = false → r = false ∧ us = []) := fun e => ⟨hr.symm.trans e, by rw [← hus]; exact f_no e⟩
  have HUS := Lib.hid hus; have HR := Lib.hid hr
  obtain ⟨er, her⟩ : ∃ er, er = errN ⟨c, h, x, ls⟩ := ⟨_, rfl⟩
  obtain ⟨tw, htw⟩ : ∃ tw, tw = totW (knN ⟨c, h, x, ls⟩) := ⟨_, rfl⟩
  obtain ⟨kn, hkn⟩ : ∃ kn, kn = (⟨c, h, x⟩ : Sh).n := ⟨_, rfl⟩
  have PI : Hid (∀ w, Calls Try.prog 21 #[.agg #[.int .i64 c, .int .i64 h, .int .i64 x]] w fun e w' => e = .returned (.int .i64 kn) ∧ Below w.heap.size w w') := fun w => by rw [hkn]; exact rsize_any _ _ _ w
  have HER := Lib.hid her; have HTW := Lib.hid htw; have HKN := Lib.hid hkn
  clear hx ln hX lx hW lw hus hr her htw hkn
  go_enter Try.func29, Try.ntmps29
  go_wp2_with fail
  refine (rall_of c h x A cA n ls _ (HX.out.below ((Below.refl _ w).alloc (Nat.le_refl _) _)) LX.out hn).mono ?_
  rintro e w1 ⟨rfl, hb⟩
  rw [← HTW.out]
  have B1 := Lib.hid (chain ((Below.refl w.heap.size w).alloc (Nat.le_refl _) _) hb)
  have N1 := Lib.hid ((NB.new w c h x (.slice A n cA)).below hb)
  obtain ⟨c0, c1, c2, c3⟩ := N1.out.cells
  clear hb
  go_wp2_with fail
  refine (rright_of c h x A cA n ls _ (HX.out.below B1.out) LX.out hn).mono ?_
  rintro e w2 ⟨rfl, hb⟩
  rw [← HER.out]
  have B2 := Lib.hid (chain B1.out hb)
  have N2 := Lib.hid (N1.out.below hb)
  clear hb c0 c1 c2 c3 B1 N1
  obtain ⟨c0, c1, c2, c3⟩ := N2.out.cells
  by_cases h0 : ¬ er = 0
  · have b0 : (er == 0) = false := by simpa using h0
    obtain ⟨rfl, rfl⟩ := NO.out (decide_eq_false fun q => h0 (HER.out.trans q.1))
    clear h0
    go_wp2_with fail
    go_ret2
    exact ⟨none, 0, 0, rfl, rfl, Rg.nil _ _ _, B2.out, Nat.le_refl _, Nat.zero_le _⟩
  have h0 : er = 0 := by omega
  have b0 : (er == 0) = true := by rw [h0]; rfl
  have he : errN ⟨c, h, x, ls⟩ = 0 := HER.out.symm.trans h0
  have n8 : n ≤ 8 := by rw [LX.out]; exact (ok_all he).2.2.2.2.2
  have kp : 1 ≤ kn := by rw [HKN.out]; exact size_pos (ok_all he).1
  have kb : kn ≤ 128 := by rw [HKN.out]; exact (size_bd _).2
  have HE := Lib.hid he
  clear he h0
  go_wp2_with fail
  refine (PI.out _).mono ?_
  rintro e w4 ⟨rfl, hb4⟩
  have B4 := Lib.hid (chain B2.out hb4)
  have N4 := Lib.hid (N2.out.below hb4)
  clear hb4 c0 c1 c2 c3 B2 N2
  by_cases hxn : ¬ (nx : Int) = kn
  · have b1 : ((nx : Int) != kn) = true := by simpa using hxn
    obtain ⟨rfl, rfl⟩ := NO.out (decide_eq_false fun q => hxn (by rw [LXX.out, HKN.out]; exact q.2.1))
    clear hxn
    go_wp2_with fail
    go_ret2
    exact ⟨none, 0, 0, rfl, rfl, Rg.nil _ _ _, B4.out, Nat.le_refl _, Nat.zero_le _⟩
  have hxn : (nx : Int) = kn := Decidable.not_not.1 hxn
  have b1 : ((nx : Int) != kn) = false := by rw [hxn]; simp
  by_cases hwn : ¬ (nw : Int) = tw
  · have b2 : ((nw : Int) != tw) = true := by simpa using hwn
    obtain ⟨rfl, rfl⟩ := NO.out (decide_eq_false fun q => hwn (by rw [LWW.out, HTW.out]; exact q.2.2))
    clear hxn hwn
    go_wp2_with fail
    go_ret2
    exact ⟨none, 0, 0, rfl, rfl, Rg.nil _ _ _, B4.out, Nat.le_refl _, Nat.zero_le _⟩
  have hwn : (nw : Int) = tw := Decidable.not_not.1 hwn
  have b2 : ((nw : Int) != tw) = false := by rw [hwn]; simp
  have hok : okF ⟨c, h, x, ls⟩ xs ws = true := decide_eq_true ⟨HE.out, by rw [← LXX.out, hxn]; exact HKN.out, by rw [← LWW.out, hwn]; exact HTW.out⟩
  obtain rfl : r = true := HR.out.symm.trans hok
  obtain rfl : us = runN ⟨c, h, x, ls⟩ ws ls.length xs := by rw [← HUS.out]; exact f_yes hok
  have HOK := Lib.hid hok
  have nx0 : 0 < nx := by omega
  have nx1 : nx ≤ 128 := by omega
  obtain ⟨b, o, rfl, lb, q⟩ := HXR.out (by rw [← LXX.out]; exact nx0)
  have Q := Lib.hid q
  have lb4 := Nat.lt_of_lt_of_le lb B4.out.size
  clear hxn hwn hok kp kb q
  go_wp2_with (at_builtin; refine wpList_append_own_at _ rfl _ _ 44 rfl w4.heap.size 51 i0 (.int .u64 0) 1 8 Try.underlying44 hi hz0 hz1 hz2 rfl (by decide) _ 0 [] rfl (own_voidU (heap_alloc_new w4 _) (Nat.le_refl _)) ⟨b, o, none⟩ nx cX (xs.flatMap ucells) rfl ?c0 ?c1 (u_ones xs) ?c3 ?c4 ?c5 ?_)
  case c0 => rw [flat_len ucells_len, LXX.out]
  case c1 => exact u_news fun j u hu => (((Below.refl _ w4).alloc (Nat.le_refl _) _).cell (p := ⟨b, o + j, none⟩) lb4).trans ((B4.out.cell (p := ⟨b, o + j, none⟩) lb).trans (Q.out j u hu))
  case c3 => unfold maxLen; omega
  case c4 => omega
  case c5 => first | omega | simp
  intro v' w5 hown2 hgrow hd1 hd2
  obtain ⟨A5, k5, rfl, e1, e2, e3, e4⟩ := own_cap ucells_len (by decide) hown2
  have hb5 : Below w4.heap.size w4 w5 := ((Below.refl _ w4).alloc (Nat.le_refl _) _).grown hgrow (by simp) (fun q hq => by simp [Value.ownBlock] at hq; omega)
  have B5 := Lib.hid (chain B4.out hb5)
  have N5 := Lib.hid (N4.out.below hb5)
  have Y0 : Hid (∃ A' k' n', (Value.slice A5 nx k5) = .slice A' n' k' ∧ n' = (runN ⟨c, h, x, ls⟩ ws 0 xs).length ∧ Rg ucells w5 A' (runN ⟨c, h, x, ls⟩ ws 0 xs) ∧ n' ≤ k' ∧ k' ≤ maxLen) := ⟨A5, k5, nx, rfl, LXX.out, e2, e3, e4⟩
  clear hown2 hgrow hd1 hd2 e1 e2 e3 e4 hb5 B4 N4 lb4
  go_wp2_with fail
  go_loopg [10, 11, 12, 13] n (fun g s10 s11 _ _ wx => ∃ k : Nat, k ≤ n ∧ Hid (g = n - k) ∧ s11 = .int .i64 (k : Int) ∧ Hid (∃ A' k' n', s10 = .slice A' n' k' ∧ n' = (runN ⟨c, h, x, ls⟩ ws k xs).length ∧ Rg ucells wx A' (runN ⟨c, h, x, ls⟩ ws k xs) ∧ n' ≤ k' ∧ k' ≤ maxLen) ∧ Hid (Below w5.heap.size w5 wx))
  case atStart => exact ⟨0, by omega, by show _ = _; omega, rfl, Y0, Below.refl _ _⟩
  case round =>
    obtain ⟨j, hj, HG, rfl, YK, BK⟩ := hrel
    obtain ⟨A6, k6, n6, rfl, h61, h62, h64, h65⟩ := YK.out
    have Y1 := Lib.hid h61; have Y2 := Lib.hid h62; have Y4 := Lib.hid h64; have Y5 := Lib.hid h65
    have BW := Lib.hid (chain B5.out BK.out)
    have NW := Lib.hid (N5.out.below BK.out)
    obtain ⟨c0, c1, c2, c3⟩ := NW.out.cells
    clear h61 h62 h64 h65 YK
    by_cases jn : j < n
    · have jb : (j : Int) < (n : Int) := by omega
      have OK := Lib.hid (run_ok HOK.out (show j < ls.length by rw [← LX.out]; exact jn))
      have LY := Lib.hid (lay_yes OK.out)
      go_wp2_with fail
      refine (rlay7_any c h x A A6 W cA n k6 n6 cW nw ls _ ws _ (j : Int) true _ (HX.out.below BW.out) LX.out hn Y2.out Y1.out (HWR.out.below BW.out) LWW.out LY.out OK.out).mono ?_
      rintro e w20 ⟨A7, k7, n7, rfl, h71, h72, hb, h74, h75⟩
      have Z1 := Lib.hid h71; have Z2 := Lib.hid h72; have Z4 := Lib.hid h74; have Z5 := Lib.hid h75
      have B7 := Lib.hid (chain BK.out hb)
      clear h71 h72 h74 h75 hb c0 c1 c2 c3
      go_wp2_with fail
      go_roundg (n - (j + 1))
      case measure => have := HG.out; omega
      case rel => exact ⟨j + 1, by omega, rfl, by go_num, ⟨A7, k7, n7, rfl, Z1.out, Z2.out, Z4.out, Z5.out⟩, B7⟩
    · obtain rfl : j = n := by omega
      go_wp2_with fail
      go_ret2
      exact ⟨A6, k6, n6, rfl, by rw [← LX.out]; exact Y1.out, by rw [← LX.out]; exact Y2.out, BW.out, Y4.out, Y5.out⟩

end Go.Proofs.Ytbcmhoomdackkaa
