/-
  What the laws of this seat stand on, part 9.
-/
import Derived.Test.YtklgjhldebdegaaGreatB08
import Derived.Deep.AppendLies
import Derived.Deep.QuietTactic
import Derived.BigQuiet
import Derived.StillTailTactics
namespace Go.Proofs.YtklgjhldebdegaaGreat
open Go.RowKit

theorem kn_len8 (N : Nt) : (knN N).length ≤ 8 := by
  obtain ⟨c, h, x, ls⟩ := N
  by_cases e : errN ⟨c, h, x, ls⟩ = 0
  · rw [knN_ok e, kn_len]; exact (ok_all e).2.2.2.2.2
  · rw [knN_no e]; simp
theorem kn_le (c h x : Int) (ls : List Ly) : (knN ⟨c, h, x, ls⟩).length ≤ ls.length := by
  by_cases e : errN ⟨c, h, x, ls⟩ = 0
  · rw [knN_ok e, kn_len]; exact Nat.le_refl _
  · rw [knN_no e]; simp
theorem tot_at (N : Nt) (k : Nat) : totW ((knN N).take (k + 1)) = totW ((knN N).take k) + (atN N k).w ∧ totP ((knN N).take (k + 1)) = totP ((knN N).take k) + (atN N k).p := by
  by_cases hk : k < (knN N).length
  · have g := kn_get? hk
    rw [take_get g, at_in (by omega) (by omega), Int.toNat_natCast]
    exact tot_snoc _ _
  · rw [at_out (by omega), kz_w, kz_p, List.take_of_length_le (by omega), List.take_of_length_le (by omega)]; simp
theorem tot_small (N : Nt) (k : Nat) : 0 ≤ totW ((knN N).take k) ∧ totW ((knN N).take k) ≤ 73728 ∧ 0 ≤ totP ((knN N).take k) ∧ totP ((knN N).take k) ≤ 10616832 := by
  have a := tot_bd ((knN N).take k) fun y hy => knN_all y (List.mem_of_mem_take hy)
  have b := kn_len8 N
  have d : ((knN N).take k).length ≤ 8 := by rw [List.length_take]; omega
  omega

set_option maxHeartbeats 4000000 in
set_option maxRecDepth 100000 in
theorem rall_of (c h x : Int) (A : Option Addr) (cA n : Nat) (ls : List Ly) (w : World) (hx : Rl w A ls) (ln : n = ls.length) (hn : n ≤ 1000) :
    Calls Tryz.prog 21 #[.agg #[.int .i64 c, .int .i64 h, .int .i64 x, .slice A n cA]] w fun e w' => e = .returned (.tuple #[.int .i64 (totW (knN ⟨c, h, x, ls⟩)), .int .i64 (totP (knN ⟨c, h, x, ls⟩))]) ∧ Below w.heap.size w w' := by
  have HX := Lib.hid hx; have LX := Lib.hid ln
  clear hx ln
  obtain ⟨W, hW⟩ : ∃ W, W = w.alloc (.cells #[.int .i64 c, .int .i64 h, .int .i64 x, .slice A n cA] 26) := ⟨_, rfl⟩
  have BW : Hid (Below w.heap.size w W) := by rw [hW]; exact (Below.refl _ w).alloc (Nat.le_refl _) _
  have NW : Hid (NB W w.heap.size c h x (.slice A n cA)) := by rw [hW]; exact NB.new w c h x _
  go_enter Tryz.func21, Tryz.ntmps21
  go_wp2_with fail
  rw [← hW]
  clear hW
  go_loopw [4, 5, 6] (fun a p i wr => ∃ k : Nat, k ≤ n ∧ k ≤ 9 ∧ a = .int .i64 (totW ((knN ⟨c, h, x, ls⟩).take k)) ∧ p = .int .i64 (totP ((knN ⟨c, h, x, ls⟩).take k)) ∧ i = .int .i64 k ∧ Hid (Below W.heap.size W wr)) (fun _ _ i _ => 9 - (intOf i).toNat)
  case atStart => exact ⟨0, Nat.zero_le _, Nat.zero_le _, rfl, rfl, rfl, Below.refl _ _⟩
  case round =>
    obtain ⟨k, hk, hk9, rfl, rfl, rfl, BC⟩ := hrel
    have N1 := Lib.hid (NW.out.below BC.out)
    obtain ⟨c0, c1, c2, c3⟩ := N1.out.cells
    have R1 := Lib.hid (HX.out.below (chain BW.out BC.out))
    by_cases hlt : k < n ∧ k ≤ 8
    · obtain ⟨k1, k2⟩ := hlt
      have d1 : decide (k < n) = true := decide_eq_true k1
      have d2 : decide ((k : Int) < (n : Int)) = true := decide_eq_true (by omega)
      have d3 : decide (k ≤ 8) = true := decide_eq_true k2
      have d4 : decide ((k : Int) ≤ 8) = true := decide_eq_true (by omega)
      have ta := tot_at ⟨c, h, x, ls⟩ k
      have ts := tot_small ⟨c, h, x, ls⟩ k
      obtain ⟨a, ha⟩ : ∃ a, a = totW ((knN ⟨c, h, x, ls⟩).take k) := ⟨_, rfl⟩
      obtain ⟨p, hp⟩ : ∃ p, p = totP ((knN ⟨c, h, x, ls⟩).take k) := ⟨_, rfl⟩
      obtain ⟨f, hf⟩ : ∃ f, f = (atN ⟨c, h, x, ls⟩ k).a := ⟨_, rfl⟩
      obtain ⟨e1, he1⟩ : ∃ e1, e1 = (atN ⟨c, h, x, ls⟩ k).w := ⟨_, rfl⟩
      obtain ⟨e2, he2⟩ : ∃ e2, e2 = (atN ⟨c, h, x, ls⟩ k).p := ⟨_, rfl⟩
      have bw := (at_ok ⟨c, h, x, ls⟩ k).w
      have bp := (at_ok ⟨c, h, x, ls⟩ k).p
      rw [← ha, ← he1, ← hp, ← he2] at ta
      rw [← ha, ← hp] at ts
      rw [← he1] at bw
      rw [← he2] at bp
      rw [← ha, ← hp]
      obtain ⟨ts1, ts2, ts3, ts4⟩ := ts
      obtain ⟨bw1, bw2⟩ := bw
      obtain ⟨bp1, bp2⟩ := bp
      have TA := Lib.hid ta
      have HF := Lib.hid hf; have HE1 := Lib.hid he1; have HE2 := Lib.hid he2
      clear ta ha hp hf he1 he2
      go_wp2_with fail
      refine (rweights_of c h x A cA n ls k _ R1.out LX.out hn).mono ?_
      rintro e w2 ⟨rfl, hb⟩
      rw [← HF.out, ← HE1.out]
      have BC2 := Lib.hid (chain BC.out hb)
      have N2 := Lib.hid (N1.out.below hb)
      have R2 := Lib.hid (R1.out.below hb)
      clear hb c0 c1 c2 c3
      obtain ⟨c0, c1, c2, c3⟩ := N2.out.cells
      go_wp2_with fail
      refine (rproducts_of c h x A cA n ls k _ R2.out LX.out hn).mono ?_
      rintro e w3 ⟨rfl, hb⟩
      rw [← HE2.out]
      have BC3 := Lib.hid (chain BC2.out hb)
      clear hb c0 c1 c2 c3
      go_wp2_with fail
      go_roundw
      case rel => exact ⟨k + 1, by omega, by omega, by rw [TA.out.1], by rw [TA.out.2], by go_num, BC3⟩
      case measure => simp [intOf]; omega
    · have et : (knN ⟨c, h, x, ls⟩).take k = knN ⟨c, h, x, ls⟩ := by
        have h1 := kn_len8 ⟨c, h, x, ls⟩
        have h2 := kn_le c h x ls
        rw [← LX.out] at h2
        exact List.take_of_length_le (by omega)
      rw [et]
      clear et
      by_cases k1 : k < n
      · have d1 : decide (k < n) = true := decide_eq_true k1
        have d2 : decide ((k : Int) < (n : Int)) = true := decide_eq_true (by omega)
        have d3 : decide (k ≤ 8) = false := decide_eq_false (by omega)
        have d4 : decide ((k : Int) ≤ 8) = false := decide_eq_false (by omega)
        go_wp2_with fail
        go_ret2
        exact ⟨rfl, chain BW.out BC.out⟩
      · have d1 : decide (k < n) = false := decide_eq_false k1
        have d2 : decide ((k : Int) < (n : Int)) = false := decide_eq_false (by omega)
        go_wp2_with fail
        go_ret2
        exact ⟨rfl, chain BW.out BC.out⟩

end Go.Proofs.YtklgjhldebdegaaGreat

namespace Go.Proofs.YtklgjhldebdegaaGreat
open Go.RowKit

set_option maxHeartbeats 4000000 in
set_option maxRecDepth 100000 in
theorem rnum_core (c h x : Int) (A X W : Option Addr) (cA n cX nx cW nw : Nat) (ls : List Ly) (xs ws : List UInt64) (i p : Nat) (ts : List Tm) (ps : List Int) (w : World)
    (hx : Rl w A ls) (ln : n = ls.length) (hn : n ≤ 1000) (hX : Rg ucells w X xs) (lx : nx = xs.length) (hW : Rg ucells w W ws) (lw : nw = ws.length)
    (hts : termsN ⟨c, h, x, ls⟩ (i : Int) (p : Int) = ts) (hps : partsN ⟨c, h, x, ls⟩ (i : Int) (p : Int) = ps) (hl : ts.length ≤ 5000) (hl2 : ps.length ≤ 5000) (hr : ∀ t ∈ ts, 0 ≤ t.x ∧ t.x < (nx : Int) ∧ t.w < (nw : Int)) (hr2 : ∀ t ∈ ps, 0 ≤ t ∧ t < (nx : Int)) :
    Calls Tryz.prog 64 #[.agg #[.int .i64 c, .int .i64 h, .int .i64 x, .slice A n cA], .int .i64 (i : Int), .int .i64 (p : Int), .slice X nx cX, .slice W nw cW] w fun e w' => e = .returned (.int .u64 (uz (sumU (ts.map (termR xs ws)) + sumU (ps.map (ug xs))))) ∧ Below w.heap.size w w' := by
  have HX := Lib.hid hx; have LN := Lib.hid ln; have HXR := Lib.hid hX; have LX := Lib.hid lx; have HWR := Lib.hid hW; have LW := Lib.hid lw; have HTS := Lib.hid hts; have HPS := Lib.hid hps; have HR := Lib.hid hr; have HR2 := Lib.hid hr2; have HL2 := Lib.hid hl2
  clear hx ln hX lx hW lw hts hps hr hr2 hl2
  go_enter Tryz.func64, Tryz.ntmps64
  go_wp2_with fail
  refine (rterms_any c h x A cA n ls (i : Int) (p : Int) _ (HX.out.below ((Below.refl _ w).alloc (Nat.le_refl _) _)) LN.out hn).mono ?_
  rintro e w1 ⟨A1, k1, n1, rfl, hn1, hR1, hb1, hd1, hd2⟩
  rw [HTS.out] at hn1 hR1
  have B1 := Lib.hid (chain ((Below.refl w.heap.size w).alloc (Nat.le_refl _) _) hb1)
  have N1 := Lib.hid ((NB.new w c h x (.slice A n cA)).below hb1)
  have R1 := Lib.hid hR1; have L1 := Lib.hid hn1
  have n5 : n1 ≤ 5000 := by omega
  clear hb1 hR1 hd1 hd2 hn1 hl
  go_wp2_with fail
  go_loopg [11, 13] n1 (fun g s6 s14 wx => ∃ k : Nat, k ≤ n1 ∧ Hid (g = n1 - k) ∧ s6 = .int .u64 (uz (sumU ((ts.take k).map (termR xs ws)))) ∧ s14 = .int .i64 (k : Int) ∧ Hid (Below w1.heap.size w1 wx))
  case atStart => exact ⟨0, by omega, by show _ = _; omega, rfl, rfl, Below.refl _ _⟩
  case round =>
    obtain ⟨k, hk, HG, rfl, rfl, BK⟩ := hrel
    obtain ⟨s, hs⟩ : ∃ s, s = sumU ((ts.take k).map (termR xs ws)) := ⟨_, rfl⟩
    rw [← hs]
    have HS := Lib.hid hs
    clear hs
    by_cases kn : k < n1
    · have ki : (k : Int) < (n1 : Int) := by omega
      obtain ⟨b1, o1, rfl, l1, q1⟩ := R1.out (by rw [← L1.out]; omega)
      obtain ⟨t, ht⟩ : ∃ t, ts[k]? = some t := ⟨_, List.getElem?_eq_getElem (by rw [← L1.out]; exact kn)⟩
      obtain ⟨y0, y1⟩ := t_cells2 q1 ht
      have z0 := (BK.out.cell (p := ⟨b1, o1 + k * 2, none⟩) l1).trans y0
      have z1 := (BK.out.cell (p := ⟨b1, o1 + k * 2 + 1, none⟩) l1).trans y1
      obtain ⟨r1, r2, r4⟩ := HR.out t (List.mem_of_getElem? ht)
      have HT := Lib.hid ht
      obtain ⟨tx, tw⟩ := t
      obtain ⟨jx, rfl⟩ : ∃ jx : Nat, tx = jx := ⟨tx.toNat, by have : 0 ≤ tx := r1; omega⟩
      have r2 : (jx : Int) < (nx : Int) := r2
      have r4 : tw < (nw : Int) := r4
      have z0 : wr.cell? ⟨b1, o1 + k * 2, none⟩ = some (.int .i64 (jx : Int)) := z0
      have z1 : wr.cell? ⟨b1, o1 + k * 2 + 1, none⟩ = some (.int .i64 tw) := z1
      obtain ⟨b2, o2, rfl, l2, q2⟩ := HXR.out (by rw [← LX.out]; omega)
      have BW := Lib.hid (chain B1.out BK.out)
      have v2 := (BW.out.cell (p := ⟨b2, o2 + jx, none⟩) l2).trans (u_cell q2 (show jx < xs.length by rw [← LX.out]; omega))
      obtain ⟨ux, hux⟩ : ∃ u, u = ug xs (jx : Nat) := ⟨_, rfl⟩
      rw [← hux] at v2
      have HUX := Lib.hid hux
      clear q1 q2 y0 y1 ht r1 hux
      by_cases neg : tw < 0
      · have d : decide (tw < 0) = true := decide_eq_true neg
        have HE : Hid (termR xs ws ⟨(jx : Int), tw⟩ = ux * ux) := by show _ = _; unfold termR; rw [if_pos neg, HUX.out]
        clear r4
        go_wp2_with fail
        go_quiet (fail)
        go_wp2_with fail
        go_roundg (n1 - (k + 1))
        case measure => have := HG.out; omega
        case rel => exact ⟨k + 1, by omega, rfl, by rw [uz_mul, uz_add, sum_next _ HT.out, ← HS.out, HE.out], by go_num, below_drewN BK.out _⟩
      · have d : decide (tw < 0) = false := decide_eq_false neg
        have HE0 : Hid (termR xs ws ⟨(jx : Int), tw⟩ = ux * ug ws tw) := by show _ = _; unfold termR; rw [if_neg neg, HUX.out]
        obtain ⟨jw, rfl⟩ : ∃ jw : Nat, tw = jw := ⟨tw.toNat, by omega⟩
        obtain ⟨b3, o3, rfl, l3, q3⟩ := HWR.out (by rw [← LW.out]; omega)
        have v3 := (BW.out.cell (p := ⟨b3, o3 + jw, none⟩) l3).trans (u_cell q3 (show jw < ws.length by rw [← LW.out]; omega))
        obtain ⟨uw, huw⟩ : ∃ u, u = ug ws (jw : Nat) := ⟨_, rfl⟩
        rw [← huw] at v3 HE0
        clear q3 huw neg
        go_wp2_with fail
        go_quiet (fail)
        go_wp2_with fail
        go_roundg (n1 - (k + 1))
        case measure => have := HG.out; omega
        case rel => exact ⟨k + 1, by omega, rfl, by rw [uz_mul, uz_add, sum_next _ HT.out, ← HS.out, HE0.out], by go_num, below_drewN BK.out _⟩
    · obtain rfl : k = n1 := by omega
      have e : ts.take k = ts := by rw [L1.out, List.take_length]
      have hs := HS.out
      rw [e] at hs
      have HS2 := Lib.hid hs
      have BW := Lib.hid (chain B1.out BK.out)
      have N2 := Lib.hid (N1.out.below BK.out)
      obtain ⟨c0, c1, c2, c3⟩ := N2.out.cells
      clear hs e HS
      go_wp2_with fail
      refine (rparts_any c h x A cA n ls (i : Int) (p : Int) _ (HX.out.below BW.out) LN.out hn).mono ?_
      rintro e w2 ⟨A2, k2, n2, rfl, hn2, hR2, hb2, hd1, hd2⟩
      rw [HPS.out] at hn2 hR2
      have B2 := Lib.hid (chain BW.out hb2)
      have R2 := Lib.hid hR2; have L2 := Lib.hid hn2
      have n6 : n2 ≤ 5000 := by rw [hn2]; exact HL2.out
      clear hb2 hR2 hd1 hd2 hn2 c0 c1 c2 c3
      go_wp2_with fail
      go_loopg [11, 15] n2 (fun g s6 s14 wx => ∃ k : Nat, k ≤ n2 ∧ Hid (g = n2 - k) ∧ s6 = .int .u64 (uz (s + sumU ((ps.take k).map (ug xs)))) ∧ s14 = .int .i64 (k : Int) ∧ Hid (Below w2.heap.size w2 wx))
      case atStart => exact ⟨0, by omega, by show _ = _; omega, by simp [sumU], rfl, Below.refl _ _⟩
      case round =>
        obtain ⟨q, hq, HG2, rfl, rfl, BQ⟩ := hrel
        obtain ⟨s3, hs3⟩ : ∃ s3, s3 = s + sumU ((ps.take q).map (ug xs)) := ⟨_, rfl⟩
        rw [← hs3]
        have HS3 := Lib.hid hs3
        clear hs3
        by_cases qn : q < n2
        · have qi : (q : Int) < (n2 : Int) := by omega
          obtain ⟨b1, o1, rfl, l1, q1⟩ := R2.out (by rw [← L2.out]; omega)
          obtain ⟨t, ht⟩ : ∃ t, ps[q]? = some t := ⟨_, List.getElem?_eq_getElem (by rw [← L2.out]; exact qn)⟩
          have z0 := (BQ.out.cell (p := ⟨b1, o1 + q, none⟩) l1).trans (i_cell q1 ht)
          obtain ⟨r1, r2⟩ := HR2.out t (List.mem_of_getElem? ht)
          have HT := Lib.hid ht
          obtain ⟨jx, rfl⟩ : ∃ jx : Nat, t = jx := ⟨t.toNat, by omega⟩
          obtain ⟨b2, o2, rfl, l2, q2⟩ := HXR.out (by rw [← LX.out]; omega)
          have BZ := Lib.hid (chain B2.out BQ.out)
          have v2 := (BZ.out.cell (p := ⟨b2, o2 + jx, none⟩) l2).trans (u_cell q2 (show jx < xs.length by rw [← LX.out]; omega))
          obtain ⟨ux, hux⟩ : ∃ u, u = ug xs (jx : Nat) := ⟨_, rfl⟩
          rw [← hux] at v2
          have HUX := Lib.hid hux
          clear q1 q2 ht r1 hux
          go_wp2_with fail
          go_roundg (n2 - (q + 1))
          case measure => have := HG2.out; omega
          case rel => exact ⟨q + 1, by omega, rfl, by rw [uz_add, sum_next _ HT.out, ← UInt64.add_assoc, ← HS3.out, HUX.out], by go_num, BQ⟩
        · obtain rfl : q = n2 := by omega
          have e : ps.take q = ps := by rw [L2.out, List.take_length]
          have hs := HS3.out
          rw [e, HS2.out] at hs
          have HS4 := Lib.hid hs
          clear hs e
          go_wp2_with fail
          go_ret
          exact ⟨by rw [HS4.out]; rfl, chain B2.out BQ.out⟩

theorem rnum_any (c h x : Int) (A X W : Option Addr) (cA n cX nx cW nw : Nat) (ls : List Ly) (xs ws : List UInt64) (i p : Nat) (K : Kn) (w : World)
    (hx : Rl w A ls) (ln : n = ls.length) (hn : n ≤ 1000) (hX : Rg ucells w X xs) (lx : nx = xs.length) (hW : Rg ucells w W ws) (lw : nw = ws.length) (hE : errN ⟨c, h, x, ls⟩ = 0) (hi : i < n) (hK : K = atN ⟨c, h, x, ls⟩ (i : Nat)) (hxn : (nx : Int) = K.i.n) (hwn : (nw : Int) = totW (knN ⟨c, h, x, ls⟩)) (hp : (p : Int) < K.u.n) :
    Calls Tryz.prog 64 #[.agg #[.int .i64 c, .int .i64 h, .int .i64 x, .slice A n cA], .int .i64 (i : Int), .int .i64 (p : Int), .slice X nx cX, .slice W nw cW] w fun e w' => e = .returned (.int .u64 (uz (numK K xs ws (p : Nat)))) ∧ Below w.heap.size w w' := by
  have g : Good K := by rw [hK]; exact good_at (isB_yes ⟨hE, by omega, by show (i : Int) < (ls.length : Int); omega⟩)
  have haw : K.a + K.w ≤ (nw : Int) := by rw [hwn, hK]; exact aw_le hE (by omega)
  have hh : hasK K (p : Nat) = true := has_yes (by omega) hp
  have hlen := terms_len g (p : Nat)
  have hper := per_bd g
  obtain ⟨p1, p2⟩ := parts_rng g hh
  have kw : 0 ≤ K.w := by
    have KOK : KnOk K := by rw [hK]; exact at_ok _ _
    exact KOK.w.1
  have := rnum_core c h x A X W cA n cX nx cW nw ls xs ws i p (termsK K (p : Nat)) (partsK K (p : Nat)) w hx ln hn hX lx hW lw (by have := hh; rw [hK] at this ⊢; exact termsN_is this) (by have := hh; rw [hK] at this ⊢; exact if_pos this) (by omega) p1 (fun t ht => by
    obtain ⟨h1, h2, h3, h4⟩ := terms_rng g hh t ht
    by_cases k0 : K.w = 0
    · have := h3 k0; omega
    · have := h4 (by omega); omega) (fun t ht => by have := p2 t ht; omega)
  rw [← num_ref g hh]
  exact this

end Go.Proofs.YtklgjhldebdegaaGreat

namespace Go.Proofs.YtklgjhldebdegaaGreat
open Go.RowKit

set_option maxHeartbeats 4000000 in
set_option maxRecDepth 100000 in
theorem rlay7_any (c h x : Int) (A X W : Option Addr) (cA n cX nx cW nw : Nat) (ls : List Ly) (xs ws us : List UInt64) (i : Int) (r : Bool) (w : World) (hx : Rl w A ls) (ln : n = ls.length) (hn : n ≤ 1000) (hX : Rg ucells w X xs) (lx : nx = xs.length) (hW : Rg ucells w W ws) (lw : nw = ws.length) (hus : layN ⟨c, h, x, ls⟩ i xs ws = us) (hr : okL ⟨c, h, x, ls⟩ i xs ws = r) :
    Calls Tryz.prog 44 #[.agg #[.int .i64 c, .int .i64 h, .int .i64 x, .slice A n cA], .int .i64 i, .slice X nx cX, .slice W nw cW] w (PairTo us r w) := by
  obtain ⟨i0, hi, hz0, hz1, hz2⟩ := info_parts Tryz.info27
  have HX := Lib.hid hx; have LX := Lib.hid ln; have HXR := Lib.hid hX; have LXX := Lib.hid lx; have HWR := Lib.hid hW; have LWW := Lib.hid lw
  have NO : Hid (okL ⟨c, h, x, ls⟩ i xs ws = false → r = false ∧ us = []) := fun e => ⟨hr.symm.trans e, by rw [← hus]; exact lay_no e⟩
  have HUS := Lib.hid hus; have HR := Lib.hid hr
  obtain ⟨er, her⟩ : ∃ er, er = errN ⟨c, h, x, ls⟩ := ⟨_, rfl⟩
  obtain ⟨tw, htw⟩ : ∃ tw, tw = totW (knN ⟨c, h, x, ls⟩) := ⟨_, rfl⟩
  have HER := Lib.hid her; have HTW := Lib.hid htw
  clear hx ln hX lx hW lw hus hr her htw
  go_enter Tryz.func44, Tryz.ntmps44
  go_wp2_with fail
  refine (rshapes_any c h x A cA n ls _ (HX.out.below ((Below.refl _ w).alloc (Nat.le_refl _) _)) LX.out hn).mono ?_
  rintro e w1 ⟨A1, k1, n1, rfl, hn1, hR, hb, hd1, hd2⟩
  rw [← HER.out]
  have B1 := Lib.hid (chain ((Below.refl w.heap.size w).alloc (Nat.le_refl _) _) hb)
  have N1 := Lib.hid ((NB.new w c h x (.slice A n cA)).below hb)
  have R1 := Lib.hid hR; have HN1 := Lib.hid hn1
  obtain ⟨c0, c1, c2, c3⟩ := N1.out.cells
  clear hb hd1 hd2 hR hn1
  go_wp2_with fail
  refine (rall_of c h x A cA n ls _ (HX.out.below B1.out) LX.out hn).mono ?_
  rintro e w2 ⟨rfl, hb⟩
  rw [← HTW.out]
  have B2 := Lib.hid (chain B1.out hb)
  have N2 := Lib.hid (N1.out.below hb)
  have R2 := Lib.hid (R1.out.below hb)
  clear hb c0 c1 c2 c3 B1 N1 R1
  obtain ⟨c0, c1, c2, c3⟩ := N2.out.cells
  by_cases h0 : ¬ er = 0
  · have b0 : (er != 0) = true := by simpa using h0
    obtain ⟨rfl, rfl⟩ := NO.out (decide_eq_false fun q => h0 (HER.out.trans q.1.1))
    clear h0
    go_wp2_with fail
    go_ret2
    exact ⟨none, 0, 0, rfl, rfl, Rg.nil _ _ _, B2.out, Nat.le_refl _, Nat.zero_le _⟩
  have h0 : er = 0 := by omega
  have b0 : (er != 0) = false := by rw [h0]; rfl
  have he : errN ⟨c, h, x, ls⟩ = 0 := HER.out.symm.trans h0
  by_cases i0' : i < 0
  · have d0 : decide (i < 0) = true := decide_eq_true i0'
    obtain ⟨rfl, rfl⟩ := NO.out (decide_eq_false fun q => by omega)
    clear h0 he
    go_wp2_with fail
    go_ret2
    exact ⟨none, 0, 0, rfl, rfl, Rg.nil _ _ _, B2.out, Nat.le_refl _, Nat.zero_le _⟩
  have d0 : decide (i < 0) = false := decide_eq_false i0'
  by_cases i1 : (n : Int) ≤ i
  · have d1 : decide ((n : Int) ≤ i) = true := decide_eq_true i1
    obtain ⟨rfl, rfl⟩ := NO.out (decide_eq_false fun q => by have q2 : i < (ls.length : Int) := q.1.2.2; have := LX.out; omega)
    clear h0 he
    go_wp2_with fail
    go_ret2
    exact ⟨none, 0, 0, rfl, rfl, Rg.nil _ _ _, B2.out, Nat.le_refl _, Nat.zero_le _⟩
  have d1 : decide ((n : Int) ≤ i) = false := decide_eq_false i1
  obtain ⟨j, rfl⟩ : ∃ j : Nat, i = j := ⟨i.toNat, by omega⟩
  have jn : j < n := by omega
  have d2 : decide (n ≤ j) = false := by simp; omega
  have hR := R2.out
  have hn1 := HN1.out
  rw [shN_ok he] at hR hn1
  rw [sh_len, ← LX.out] at hn1
  obtain ⟨bS, oS, rfl, hlS, hcS⟩ := hR (by rw [sh_len]; omega)
  have hjl : j < ls.length := by rw [← LX.out]; exact jn
  have hl := get_ly hjl
  obtain ⟨K, hK⟩ : ∃ K, K = atN ⟨c, h, x, ls⟩ (j : Int) := ⟨_, rfl⟩
  have hKe := hK.trans (at_some he hl)
  have g1 := sh_get ls ⟨c, h, x⟩ j (by omega)
  rw [show endS ⟨c, h, x⟩ (ls.take j) = K.i by rw [hKe]] at g1
  have g2 := sh_get ls ⟨c, h, x⟩ (j + 1) (by omega)
  rw [show endS ⟨c, h, x⟩ (ls.take (j + 1)) = K.u by rw [hKe, run_end c h x ls hl]] at g2
  obtain ⟨y0, y1, y2⟩ := sh_at hcS g1
  obtain ⟨a4, a5, a6⟩ := sh_at hcS g2
  obtain ⟨m, hm⟩ : ∃ m, m = j + 1 := ⟨_, rfl⟩
  rw [← hm] at a4 a5 a6
  have GD : Good K := by rw [hK]; exact good_at (isB_yes ⟨he, by omega, by show (j : Int) < (ls.length : Int); omega⟩)
  have ja : (0 : Int) ≤ (j : Int) := by omega
  have jb : (j : Int) < (n1 : Int) := by omega
  have ma : (0 : Int) ≤ (m : Int) := by omega
  have mb : (m : Int) < (n1 : Int) := by omega
  have jb' : j < n1 := by omega
  have mb' : m < n1 := by omega
  have v1 : IntKind.i64.wrap ((j : Int) + 1) = (m : Int) := next_i64 hm (Nat.lt_succ_self j) (by omega)
  have v2 : wrap64 ((j : Int) + 1) = (m : Int) := next_wrap hm (Nat.lt_succ_self j) (by omega)
  have PI : Hid (∀ w, Calls Tryz.prog 32 #[.agg #[.int .i64 K.i.c, .int .i64 K.i.h, .int .i64 K.i.x]] w fun e w' => e = .returned (.int .i64 K.i.n) ∧ Below w.heap.size w w') := fun w => rsize_any _ _ _ w
  have PS : Hid (∀ w, Calls Tryz.prog 32 #[.agg #[.int .i64 K.u.c, .int .i64 K.u.h, .int .i64 K.u.x]] w fun e w' => e = .returned (.int .i64 K.u.n) ∧ Below w.heap.size w w') := fun w => rsize_any _ _ _ w
  have HK := Lib.hid hK; have HE := Lib.hid he
  obtain ⟨kn, hkn⟩ : ∃ kn, kn = K.i.n := ⟨_, rfl⟩
  have HKN := Lib.hid hkn
  have un := size_bd K.u
  obtain ⟨ku, hku⟩ : ∃ ku : Nat, K.u.n = ku := ⟨K.u.n.toNat, by omega⟩
  have ku8 : ku ≤ 128 := by omega
  have HKU := Lib.hid hku
  rw [← hkn] at PI
  rw [hku] at PS
  clear hK hKe g1 g2 hcS hl he hn1 hm hkn GD un hku hR h0
  go_wp2_with fail
  refine (PI.out _).mono ?_
  rintro e w4 ⟨rfl, hb4⟩
  have B4 := Lib.hid (chain B2.out hb4)
  have N4 := Lib.hid (N2.out.below hb4)
  have a4 := (hb4.cell (p := ⟨bS, oS + m * 3, none⟩) hlS).trans a4
  have a5 := (hb4.cell (p := ⟨bS, oS + m * 3 + 1, none⟩) hlS).trans a5
  have a6 := (hb4.cell (p := ⟨bS, oS + m * 3 + 2, none⟩) hlS).trans a6
  have A4 := Lib.hid a4; have A5 := Lib.hid a5; have A6 := Lib.hid a6
  have hlS := Nat.lt_of_lt_of_le hlS hb4.size
  clear hb4 y0 y1 y2 c0 c1 c2 c3 B2 N2 R2 a4 a5 a6
  by_cases hxn : ¬ (nx : Int) = kn
  · have b1 : ((nx : Int) != kn) = true := by simpa using hxn
    obtain ⟨rfl, rfl⟩ := NO.out (decide_eq_false fun q => hxn (by rw [LXX.out, HKN.out, HK.out]; exact q.2.1))
    clear hxn
    go_wp2_with fail
    go_ret2
    exact ⟨none, 0, 0, rfl, rfl, Rg.nil _ _ _, B4.out, Nat.le_refl _, Nat.zero_le _⟩
  have hxn : (nx : Int) = kn := Decidable.not_not.1 hxn
  have b1 : ((nx : Int) != kn) = false := by rw [hxn]; simp
  by_cases hwn : ¬ (nw : Int) = tw
  · have b2 : ((nw : Int) != tw) = true := by simpa using hwn
    obtain ⟨rfl, rfl⟩ := NO.out (decide_eq_false fun q => hwn (by rw [LWW.out, HTW.out]; exact q.2.2))
    clear hxn hwn
    go_wp2_with fail
    go_ret2
    exact ⟨none, 0, 0, rfl, rfl, Rg.nil _ _ _, B4.out, Nat.le_refl _, Nat.zero_le _⟩
  have hwn : (nw : Int) = tw := Decidable.not_not.1 hwn
  have b2 : ((nw : Int) != tw) = false := by rw [hwn]; simp
  have hok : okL ⟨c, h, x, ls⟩ (j : Int) xs ws = true := decide_eq_true ⟨⟨HE.out, by omega, by show (j : Int) < (ls.length : Int); rw [← LX.out]; omega⟩, by rw [← LXX.out, ← HK.out, ← HKN.out]; exact hxn, by rw [← LWW.out, ← HTW.out]; exact hwn⟩
  obtain rfl : r = true := HR.out.symm.trans hok
  have hux : us = layK K xs ws := by rw [← HUS.out, HK.out]; exact lay_yes hok
  have UL : Hid (ku = us.length) := by show _ = _; rw [hux, lay_len, HKU.out]; simp
  have UG : Hid (∀ p : Nat, p < ku → us[p]? = some (numK K xs ws (p : Nat))) := fun p hp => by rw [hux]; exact lay_get (by rw [HKU.out]; simpa using hp)
  have NU : Hid (∀ (p : Nat) (w' : World), p < ku → Rl w' A ls → Rg ucells w' X xs → Rg ucells w' W ws → Calls Tryz.prog 64 #[.agg #[.int .i64 c, .int .i64 h, .int .i64 x, .slice A n cA], .int .i64 (j : Int), .int .i64 (p : Int), .slice X nx cX, .slice W nw cW] w' fun e w'' => e = .returned (.int .u64 (uz (numK K xs ws (p : Nat)))) ∧ Below w'.heap.size w' w'') := fun p w' hp z1 z2 z3 =>
    rnum_any c h x A X W cA n cX nx cW nw ls xs ws j p K w' z1 LX.out hn z2 LXX.out z3 LWW.out HE.out jn HK.out (by rw [hxn, HKN.out]) (by rw [hwn, HTW.out]) (by rw [HKU.out]; omega)
  clear hxn hok hwn hux
  go_wp2_with fail
  go_loopg [14, 15] ku (fun g s14 s15 wx => ∃ k : Nat, k ≤ ku ∧ Hid (g = ku - k) ∧ s15 = .int .i64 (k : Int) ∧ Hid (wx.ownsRow w4.heap.size 27 1 s14 k ((us.take k).flatMap ucells)) ∧ Hid (Below w4.heap.size w4 wx))
  case atStart => exact ⟨0, by omega, by show _ = _; omega, rfl, World.ownsRow_nil _ _ _ _, Below.refl _ _⟩
  case round =>
    obtain ⟨k, hk, HG, rfl, OW, BK⟩ := hrel
    have a4 := (BK.out.cell (p := ⟨bS, oS + m * 3, none⟩) hlS).trans A4.out
    have a5 := (BK.out.cell (p := ⟨bS, oS + m * 3 + 1, none⟩) hlS).trans A5.out
    have a6 := (BK.out.cell (p := ⟨bS, oS + m * 3 + 2, none⟩) hlS).trans A6.out
    go_wp2_with fail
    refine (PS.out _).mono ?_
    rintro e w6 ⟨rfl, hb6⟩
    have B6 := Lib.hid (chain BK.out hb6)
    have O6 := Lib.hid (own_belowE OW.out hb6)
    have BW := Lib.hid (chain B4.out B6.out)
    have NW := Lib.hid (N4.out.below B6.out)
    clear hb6 a4 a5 a6 OW BK
    by_cases km : k < ku
    · have ki : (k : Int) < (ku : Int) := by omega
      obtain ⟨c0, c1, c2, c3⟩ := NW.out.cells
      go_wp2_with fail
      refine (NU.out k _ km (HX.out.below BW.out) (HXR.out.below BW.out) (HWR.out.below BW.out)).mono ?_
      rintro e w7 ⟨rfl, hb7⟩
      have B7 := Lib.hid (chain B6.out hb7)
      have O7 := Lib.hid (own_belowE O6.out hb7)
      obtain ⟨u, hu⟩ : ∃ u, u = numK K xs ws (k : Nat) := ⟨_, rfl⟩
      rw [← hu]
      have HU := Lib.hid (UG.out k km)
      rw [← hu] at HU
      have hs := B7.out.size
      clear hb7 hu c0 c1 c2 c3 O6 B6
      go_wp2_with (at_builtin; refine wpList_append_own _ rfl _ _ 28 rfl w4.heap.size 27 i0 (.int .u64 0) 1 8 Tryz.underlying28 hi hz0 hz1 hz2 rfl (by decide) _ _ _ rfl (O7.out.alloc _) ⟨w7.heap.size, 0, none⟩ 1 1 [.int .u64 (uz u)] rfl rfl ?c1 ?c2 ?c3 ?c4 ?c5 ?_)
      case c1 =>
        intro j u hj
        match j, hj with
        | 0, hj => simp at hj; subst hj; simp [Addr.add]
      case c2 => intro u hu; simp at hu; subst hu; rfl
      case c3 => unfold maxLen; omega
      case c4 => omega
      case c5 => simp; omega
      intro v' w8 hown2 hgrow _
      have HO2 : Hid (w8.ownsRow w4.heap.size 27 1 v' (k + 1) ((us.take (k + 1)).flatMap ucells)) := by
        show World.ownsRow _ _ _ _ _ _ _
        rw [take_next HU.out, List.flatMap_append]
        simp only [List.flatMap_cons, List.flatMap_nil, List.append_nil, ucells]
        exact hown2
      have HB2 : Hid (Below w4.heap.size w4 w8) := (B7.out.alloc hs _).grown hgrow (by simp; omega) (fun q hqq => (O7.out.lt _ hqq).1)
      clear hown2 hgrow O7 B7 hs
      go_wp2_with fail
      go_roundg (ku - (k + 1))
      case measure => have := HG.out; omega
      case rel => exact ⟨k + 1, by omega, rfl, by go_num, HO2, HB2⟩
    · obtain rfl : k = ku := by omega
      have hf := O6.out
      rw [List.take_of_length_le (by rw [← UL.out]; exact Nat.le_refl _)] at hf
      obtain ⟨A', c', rfl, e1, hr, e3, e4⟩ := own_cap ucells_len (by decide) hf
      have HR2 := Lib.hid hr; have E3 := Lib.hid e3; have E4 := Lib.hid e4
      clear hr hf e1 e3 e4
      go_wp2_with fail
      go_ret2
      exact ⟨A', c', k, rfl, UL.out, HR2.out, BW.out, E3.out, E4.out⟩

set_option maxHeartbeats 4000000 in
set_option maxRecDepth 100000 in
theorem rF_any (c h x : Int) (A X W : Option Addr) (cA n cX nx cW nw : Nat) (ls : List Ly) (xs ws us : List UInt64) (r : Bool) (w : World) (hx : Rl w A ls) (ln : n = ls.length) (hn : n ≤ 1000) (hX : Rg ucells w X xs) (lx : nx = xs.length) (hW : Rg ucells w W ws) (lw : nw = ws.length) (hus : fN ⟨c, h, x, ls⟩ xs ws = us) (hr : okF ⟨c, h, x, ls⟩ xs ws = r) :
    Calls Tryz.prog 23 #[.agg #[.int .i64 c, .int .i64 h, .int .i64 x, .slice A n cA], .slice X nx cX, .slice W nw cW] w (PairTo us r w) := by
  obtain ⟨i0, hi, hz0, hz1, hz2⟩ := info_parts Tryz.info27
  have HX := Lib.hid hx; have LX := Lib.hid ln; have HXR := Lib.hid hX; have LXX := Lib.hid lx; have HWR := Lib.hid hW; have LWW := Lib.hid lw
  have NO : Hid (okF ⟨c, h, x, ls⟩ xs ws = false → r = false ∧ us = []) := fun e => ⟨hr.symm.trans e, by rw [← hus]; exact f_no e⟩
  have HUS := Lib.hid hus; have HR := Lib.hid hr
  obtain ⟨er, her⟩ : ∃ er, er = errN ⟨c, h, x, ls⟩ := ⟨_, rfl⟩
  obtain ⟨tw, htw⟩ : ∃ tw, tw = totW (knN ⟨c, h, x, ls⟩) := ⟨_, rfl⟩
  obtain ⟨kn, hkn⟩ : ∃ kn, kn = (⟨c, h, x⟩ : Sh).n := ⟨_, rfl⟩
  have PI : Hid (∀ w, Calls Tryz.prog 32 #[.agg #[.int .i64 c, .int .i64 h, .int .i64 x]] w fun e w' => e = .returned (.int .i64 kn) ∧ Below w.heap.size w w') := fun w => by rw [hkn]; exact rsize_any _ _ _ w
  have HER := Lib.hid her; have HTW := Lib.hid htw; have HKN := Lib.hid hkn
  clear hx ln hX lx hW lw hus hr her htw hkn
  go_enter Tryz.func23, Tryz.ntmps23
  go_wp2_with fail
  refine (rall_of c h x A cA n ls _ (HX.out.below ((Below.refl _ w).alloc (Nat.le_refl _) _)) LX.out hn).mono ?_
  rintro e w1 ⟨rfl, hb⟩
  rw [← HTW.out]
  have B1 := Lib.hid (chain ((Below.refl w.heap.size w).alloc (Nat.le_refl _) _) hb)
  have N1 := Lib.hid ((NB.new w c h x (.slice A n cA)).below hb)
  obtain ⟨c0, c1, c2, c3⟩ := N1.out.cells
  clear hb
  go_wp2_with fail
  refine (rright_of c h x A cA n ls _ (HX.out.below B1.out) LX.out hn).mono ?_
  rintro e w2 ⟨rfl, hb⟩
  rw [← HER.out]
  have B2 := Lib.hid (chain B1.out hb)
  have N2 := Lib.hid (N1.out.below hb)
  clear hb c0 c1 c2 c3 B1 N1
  obtain ⟨c0, c1, c2, c3⟩ := N2.out.cells
  by_cases h0 : ¬ er = 0
  · have b0 : (er == 0) = false := by simpa using h0
    obtain ⟨rfl, rfl⟩ := NO.out (decide_eq_false fun q => h0 (HER.out.trans q.1))
    clear h0
    go_wp2_with fail
    go_ret2
    exact ⟨none, 0, 0, rfl, rfl, Rg.nil _ _ _, B2.out, Nat.le_refl _, Nat.zero_le _⟩
  have h0 : er = 0 := by omega
  have b0 : (er == 0) = true := by rw [h0]; rfl
  have he : errN ⟨c, h, x, ls⟩ = 0 := HER.out.symm.trans h0
  have n8 : n ≤ 8 := by rw [LX.out]; exact (ok_all he).2.2.2.2.2
  have kp : 1 ≤ kn := by rw [HKN.out]; exact size_pos (ok_all he).1
  have kb : kn ≤ 128 := by rw [HKN.out]; exact (size_bd _).2
  have HE := Lib.hid he
  clear he h0
  go_wp2_with fail
  refine (PI.out _).mono ?_
  rintro e w4 ⟨rfl, hb4⟩
  have B4 := Lib.hid (chain B2.out hb4)
  have N4 := Lib.hid (N2.out.below hb4)
  clear hb4 c0 c1 c2 c3 B2 N2
  by_cases hxn : ¬ (nx : Int) = kn
  · have b1 : ((nx : Int) != kn) = true := by simpa using hxn
    obtain ⟨rfl, rfl⟩ := NO.out (decide_eq_false fun q => hxn (by rw [LXX.out, HKN.out]; exact q.2.1))
    clear hxn
    go_wp2_with fail
    go_ret2
    exact ⟨none, 0, 0, rfl, rfl, Rg.nil _ _ _, B4.out, Nat.le_refl _, Nat.zero_le _⟩
  have hxn : (nx : Int) = kn := Decidable.not_not.1 hxn
  have b1 : ((nx : Int) != kn) = false := by rw [hxn]; simp
  by_cases hwn : ¬ (nw : Int) = tw
  · have b2 : ((nw : Int) != tw) = true := by simpa using hwn
    obtain ⟨rfl, rfl⟩ := NO.out (decide_eq_false fun q => hwn (by rw [LWW.out, HTW.out]; exact q.2.2))
    clear hxn hwn
    go_wp2_with fail
    go_ret2
    exact ⟨none, 0, 0, rfl, rfl, Rg.nil _ _ _, B4.out, Nat.le_refl _, Nat.zero_le _⟩
  have hwn : (nw : Int) = tw := Decidable.not_not.1 hwn
  have b2 : ((nw : Int) != tw) = false := by rw [hwn]; simp
  have hok : okF ⟨c, h, x, ls⟩ xs ws = true := decide_eq_true ⟨HE.out, by rw [← LXX.out, hxn]; exact HKN.out, by rw [← LWW.out, hwn]; exact HTW.out⟩
  obtain rfl : r = true := HR.out.symm.trans hok
  obtain rfl : us = runN ⟨c, h, x, ls⟩ ws ls.length xs := by rw [← HUS.out]; exact f_yes hok
  have HOK := Lib.hid hok
  have nx0 : 0 < nx := by omega
  have nx1 : nx ≤ 128 := by omega
  obtain ⟨b, o, rfl, lb, q⟩ := HXR.out (by rw [← LXX.out]; exact nx0)
  have Q := Lib.hid q
  have lb4 := Nat.lt_of_lt_of_le lb B4.out.size
  clear hxn hwn hok kp kb q
  go_wp2_with (at_builtin; refine wpList_append_own_at _ rfl _ _ 28 rfl w4.heap.size 27 i0 (.int .u64 0) 1 8 Tryz.underlying28 hi hz0 hz1 hz2 rfl (by decide) _ 0 [] rfl (own_voidU (heap_alloc_new w4 _) (Nat.le_refl _)) ⟨b, o, none⟩ nx cX (xs.flatMap ucells) rfl ?c0 ?c1 (u_ones xs) ?c3 ?c4 ?c5 ?_)
  case c0 => rw [flat_len ucells_len, LXX.out]
  case c1 => exact u_news fun j u hu => (((Below.refl _ w4).alloc (Nat.le_refl _) _).cell (p := ⟨b, o + j, none⟩) lb4).trans ((B4.out.cell (p := ⟨b, o + j, none⟩) lb).trans (Q.out j u hu))
  case c3 => unfold maxLen; omega
  case c4 => omega
  case c5 => first | omega | simp
  intro v' w5 hown2 hgrow hd1 hd2
  obtain ⟨A5, k5, rfl, e1, e2, e3, e4⟩ := own_cap ucells_len (by decide) hown2
  have hb5 : Below w4.heap.size w4 w5 := ((Below.refl _ w4).alloc (Nat.le_refl _) _).grown hgrow (by simp) (fun q hq => by simp [Value.ownBlock] at hq; omega)
  have B5 := Lib.hid (chain B4.out hb5)
  have N5 := Lib.hid (N4.out.below hb5)
  have Y0 : Hid (∃ A' k' n', (Value.slice A5 nx k5) = .slice A' n' k' ∧ n' = (runN ⟨c, h, x, ls⟩ ws 0 xs).length ∧ Rg ucells w5 A' (runN ⟨c, h, x, ls⟩ ws 0 xs) ∧ n' ≤ k' ∧ k' ≤ maxLen) := ⟨A5, k5, nx, rfl, LXX.out, e2, e3, e4⟩
  clear hown2 hgrow hd1 hd2 e1 e2 e3 e4 hb5 B4 N4 lb4
  go_wp2_with fail
  go_loopg [10, 11, 12, 13] n (fun g s10 s11 _ _ wx => ∃ k : Nat, k ≤ n ∧ Hid (g = n - k) ∧ s11 = .int .i64 (k : Int) ∧ Hid (∃ A' k' n', s10 = .slice A' n' k' ∧ n' = (runN ⟨c, h, x, ls⟩ ws k xs).length ∧ Rg ucells wx A' (runN ⟨c, h, x, ls⟩ ws k xs) ∧ n' ≤ k' ∧ k' ≤ maxLen) ∧ Hid (Below w5.heap.size w5 wx))
  case atStart => exact ⟨0, by omega, by show _ = _; omega, rfl, Y0, Below.refl _ _⟩
  case round =>
    obtain ⟨j, hj, HG, rfl, YK, BK⟩ := hrel
    obtain ⟨A6, k6, n6, rfl, h61, h62, h64, h65⟩ := YK.out
    have Y1 := Lib.hid h61; have Y2 := Lib.hid h62; have Y4 := Lib.hid h64; have Y5 := Lib.hid h65
    have BW := Lib.hid (chain B5.out BK.out)
    have NW := Lib.hid (N5.out.below BK.out)
    obtain ⟨c0, c1, c2, c3⟩ := NW.out.cells
    clear h61 h62 h64 h65 YK
    by_cases jn : j < n
    · have jb : (j : Int) < (n : Int) := by omega
      have OK := Lib.hid (run_ok HOK.out (show j < ls.length by rw [← LX.out]; exact jn))
      have LY := Lib.hid (lay_yes OK.out)
      go_wp2_with fail
      refine (rlay7_any c h x A A6 W cA n k6 n6 cW nw ls _ ws _ (j : Int) true _ (HX.out.below BW.out) LX.out hn Y2.out Y1.out (HWR.out.below BW.out) LWW.out LY.out OK.out).mono ?_
      rintro e w20 ⟨A7, k7, n7, rfl, h71, h72, hb, h74, h75⟩
      have Z1 := Lib.hid h71; have Z2 := Lib.hid h72; have Z4 := Lib.hid h74; have Z5 := Lib.hid h75
      have B7 := Lib.hid (chain BK.out hb)
      clear h71 h72 h74 h75 hb c0 c1 c2 c3
      go_wp2_with fail
      go_roundg (n - (j + 1))
      case measure => have := HG.out; omega
      case rel => exact ⟨j + 1, by omega, rfl, by go_num, ⟨A7, k7, n7, rfl, Z1.out, Z2.out, Z4.out, Z5.out⟩, B7⟩
    · obtain rfl : j = n := by omega
      go_wp2_with fail
      go_ret2
      exact ⟨A6, k6, n6, rfl, by rw [← LX.out]; exact Y1.out, by rw [← LX.out]; exact Y2.out, BW.out, Y4.out, Y5.out⟩

end Go.Proofs.YtklgjhldebdegaaGreat

namespace Go.Proofs.YtklgjhldebdegaaGreat
open Go.RowKit

theorem Tryz.info50 : (Tryz.prog.info? 50).map (fun i => (i.zero, i.size, i.bytes)) = some (some (.agg #[.int .i64 0, .int .i64 0, .int .i64 0, .int .i64 0, .int .i64 0]), 5, 40) := by kernel_rfl

set_option maxHeartbeats 1000000 in
theorem rtotal8 (c h x : Int) (A : Option Addr) (cA n : Nat) (ls : List Ly) (w : World) (hx : Rl w A ls) (ln : n = ls.length) (hn : n ≤ 60) :
    Calls Tryz.prog 59 #[.agg #[.int .i64 c, .int .i64 h, .int .i64 x, .slice A n cA]] w fun e w' => e = .returned (.int .i64 (totP (knN ⟨c, h, x, ls⟩))) ∧ Below w.heap.size w w' := by
  have HX := Lib.hid hx; have LX := Lib.hid ln
  have hn1 : n ≤ 1000 := by omega
  clear hx ln
  go_enter Tryz.func59, Tryz.ntmps59
  go_wp2_with fail
  refine (rall_of c h x A cA n ls _ (HX.out.below ((Below.refl _ w).alloc (Nat.le_refl _) _)) LX.out hn1).mono ?_
  rintro e w1 ⟨rfl, hb⟩
  have B1 := Lib.hid (chain ((Below.refl w.heap.size w).alloc (Nat.le_refl _) _) hb)
  clear hb
  go_wp2_with fail
  go_ret
  exact ⟨rfl, B1.out⟩

set_option maxHeartbeats 2000000 in
set_option maxRecDepth 100000 in
theorem rstages8 (c h x : Int) (A : Option Addr) (cA n : Nat) (ls : List Ly) (w : World) (hx : Rl w A ls) (ln : n = ls.length) (hn : n ≤ 60) :
    Calls Tryz.prog 18 #[.agg #[.int .i64 c, .int .i64 h, .int .i64 x, .slice A n cA]] w (RowTo icells (stagesN ⟨c, h, x, ls⟩) w) := by
  obtain ⟨i0, hi, hz0, hz1, hz2⟩ := info_parts Tryz.info3
  obtain ⟨er, her⟩ : ∃ er, er = errN ⟨c, h, x, ls⟩ := ⟨_, rfl⟩
  have HER := Lib.hid her
  have N0 := Lib.hid (NB.new w c h x (.slice A n cA))
  have B0 : Hid (Below w.heap.size w (w.alloc (.cells #[.int .i64 c, .int .i64 h, .int .i64 x, .slice A n cA] 26))) := (Below.refl _ w).alloc (Nat.le_refl _) _
  clear her
  have HX := Lib.hid hx; have LX := Lib.hid ln
  have hn1 : n ≤ 1000 := by omega
  clear hx ln
  go_enter Tryz.func18, Tryz.ntmps18
  go_wp2_with fail
  generalize w.alloc (.cells #[.int .i64 c, .int .i64 h, .int .i64 x, .slice A n cA] 26) = W at N0 B0 ⊢
  go_loopg [3, 4] n (fun g s3 s4 wx => ∃ k : Nat, k ≤ n ∧ Hid (g = n - k) ∧ s4 = .int .i64 (k : Int) ∧ Hid (wx.ownsRow W.heap.size 3 1 s3 (stK ls k).length ((stK ls k).flatMap icells)) ∧ Hid (k = 0 ∨ er = 0) ∧ Hid (Below W.heap.size W wx))
  case atStart => exact ⟨0, by omega, by show _ = _; omega, rfl, World.ownsRow_nil _ _ _ _, .inl rfl, Below.refl _ _⟩
  case round =>
    obtain ⟨k, hk, HG, rfl, OW, HZ, BK⟩ := hrel
    have BW := Lib.hid (chain B0.out BK.out)
    have NW := Lib.hid (N0.out.below BK.out)
    obtain ⟨c0, c1, c2, c3⟩ := NW.out.cells
    by_cases kn : k < n
    · have ki : (k : Int) < (n : Int) := by omega
      go_wp2_with fail
      refine (rright_of c h x A cA n ls _ (HX.out.below BW.out) LX.out hn1).mono ?_
      rintro e w2 ⟨rfl, hb⟩
      rw [← HER.out]
      have B2 := Lib.hid (chain BK.out hb)
      have BW2 := Lib.hid (chain BW.out hb)
      have N2 := Lib.hid (NW.out.below hb)
      have O2 := Lib.hid (own_belowE OW.out hb)
      clear hb c0 c1 c2 c3 OW BK BW NW
      obtain ⟨c0, c1, c2, c3⟩ := N2.out.cells
      by_cases h0 : ¬ er = 0
      · have b0 : (er == 0) = false := by simpa using h0
        obtain rfl : k = 0 := HZ.out.elim (fun z => z) (fun z => absurd z h0)
        have E0 : Hid (stagesN ⟨c, h, x, ls⟩ = []) := if_neg (by rw [← HER.out]; exact h0)
        obtain ⟨A', c', rfl, e1, hr, e3, e4⟩ := own_cap icells_len (by decide) O2.out
        have HR := Lib.hid hr; have E3 := Lib.hid e3; have E4 := Lib.hid e4
        clear h0 hr e1 e3 e4
        go_wp2_with fail
        go_ret
        refine ⟨A', c', _, rfl, by rw [E0.out]; rfl, by rw [E0.out]; exact Rg.nil _ _ _, BW2.out, E3.out, E4.out⟩
      have h0 : er = 0 := by omega
      have b0 : (er == 0) = true := by rw [h0]; rfl
      have kl : k < ls.length := by rw [← LX.out]; exact kn
      obtain ⟨b1, o1, rfl, l1, q⟩ := HX.out (by omega)
      obtain ⟨z0, z1, z2, z3⟩ := (q k kl).below BW2.out l1
      obtain ⟨l, hl⟩ : ∃ l, l = ls.getD k Ly.z := ⟨_, rfl⟩
      rw [← hl] at z0 z1 z2 z3
      have HL := Lib.hid hl; have H0 := Lib.hid h0
      have ln60 := stK_len ls k
      clear q hl h0 kl
      by_cases k3 : l.k = 3
      · have d : (l.k != 3) = false := by rw [k3]; rfl
        have O3 : Hid (w2.ownsRow W.heap.size 3 1 u3 (stK ls (k + 1)).length ((stK ls (k + 1)).flatMap icells)) := by
          have : stK ls (k + 1) = stK ls k := by simp only [stK]; rw [← HL.out, if_pos k3, List.append_nil]
          show World.ownsRow _ _ _ _ _ _ _
          rw [this]; exact O2.out
        clear k3
        go_wp2_with fail
        go_roundg (n - (k + 1))
        case measure => have := HG.out; omega
        case rel => exact ⟨k + 1, by omega, rfl, by go_num, O3, .inr H0.out, B2⟩
      · have d : (l.k != 3) = true := by simpa using k3
        have E1 : Hid (stK ls (k + 1) = stK ls k ++ [((k : Nat) : Int)]) := by show _ = _; simp only [stK]; rw [← HL.out, if_neg k3]
        have hs := B2.out.size
        clear k3
        go_wp2_with (at_builtin; refine wpList_append_own _ rfl _ _ 36 rfl W.heap.size 3 i0 (.int .i64 0) 1 8 Tryz.underlying36 hi hz0 hz1 hz2 rfl (by decide) _ _ _ rfl (O2.out.alloc _) ⟨w2.heap.size, 0, none⟩ 1 1 (icells (k : Int)) rfl rfl ?c1 (icells_one _) ?c3 ?c4 ?c5 ?_)
        case c1 => first | exact fun _ _ h => h | exact new_cells
        case c3 => unfold maxLen; omega
        case c4 => omega
        case c5 => first | omega | (simp; omega)
        intro v' w4 hown2 hgrow hcp
        clear hcp
        have O4 : Hid (w4.ownsRow W.heap.size 3 1 v' (stK ls (k + 1)).length ((stK ls (k + 1)).flatMap icells)) := by
          show World.ownsRow _ _ _ _ _ _ _
          rw [E1.out, List.length_append, List.flatMap_append]
          simpa using hown2
        have B4 : Hid (Below W.heap.size W w4) := (B2.out.alloc hs _).grown hgrow (by simp; omega) (fun q hqq => (O2.out.lt _ hqq).1)
        clear hown2 hgrow O2 B2 hs
        go_wp2_with fail
        go_roundg (n - (k + 1))
        case measure => have := HG.out; omega
        case rel => exact ⟨k + 1, by omega, rfl, by go_num, O4, .inr H0.out, B4⟩
    · obtain rfl : k = n := by omega
      have E0 : Hid (stagesN ⟨c, h, x, ls⟩ = stK ls k) := by
        show _ = _
        rcases HZ.out with z | z
        · subst z
          have : ls = [] := List.length_eq_zero_iff.1 LX.out.symm
          subst this
          unfold stagesN; split <;> rfl
        · rw [show stagesN ⟨c, h, x, ls⟩ = stK ls ls.length from if_pos (by rw [← HER.out]; exact z), LX.out]
      obtain ⟨A', c', rfl, e1, hr, e3, e4⟩ := own_cap icells_len (by decide) OW.out
      have HR := Lib.hid hr; have E3 := Lib.hid e3; have E4 := Lib.hid e4
      clear hr e1 e3 e4
      go_wp2_with fail
      go_ret
      exact ⟨A', c', _, rfl, by rw [E0.out], by rw [E0.out]; exact HR.out, BW.out, E3.out, E4.out⟩

set_option maxHeartbeats 2000000 in
set_option maxRecDepth 100000 in
theorem rrange8 (c h x : Int) (A : Option Addr) (cA n : Nat) (ls : List Ly) (s : Int) (a b : Int) (hab : rangeN ⟨c, h, x, ls⟩ s = (a, b)) (w : World) (hx : Rl w A ls) (ln : n = ls.length) (hn : n ≤ 60) :
    Calls Tryz.prog 24 #[.agg #[.int .i64 c, .int .i64 h, .int .i64 x, .slice A n cA], .int .i64 s] w fun e w' => e = .returned (.tuple #[.int .i64 a, .int .i64 b]) ∧ Below w.heap.size w w' := by
  have HAB := Lib.hid hab
  clear hab
  have HX := Lib.hid hx; have LX := Lib.hid ln
  have hn1 : n ≤ 1000 := by omega
  clear hx ln
  go_enter Tryz.func24, Tryz.ntmps24
  go_wp2_with fail
  refine (rstages8 c h x A cA n ls _ (HX.out.below ((Below.refl _ w).alloc (Nat.le_refl _) _)) LX.out hn).mono ?_
  rintro e w1 ⟨A1, k1, n1, rfl, hn1', hR, hb, hd1, hd2⟩
  have B1 := Lib.hid (chain ((Below.refl w.heap.size w).alloc (Nat.le_refl _) _) hb)
  have N1 := Lib.hid ((NB.new w c h x (.slice A n cA)).below hb)
  obtain ⟨c0, c1, c2, c3⟩ := N1.out.cells
  have R1 := Lib.hid hR; have L1 := Lib.hid hn1'
  obtain ⟨st, hst⟩ : ∃ st, st = stagesN ⟨c, h, x, ls⟩ := ⟨_, rfl⟩
  rw [← hst] at R1 L1
  have HST := Lib.hid hst
  have n60 : n1 ≤ 60 := by
    rw [hn1']
    unfold stagesN
    split
    · have := stK_len ls ls.length; have := LX.out; show (stK ls ls.length).length ≤ 60; omega
    · simp
  clear hb hR hd1 hd2 hn1' hst
  by_cases s0 : s < 0
  · have d0 : decide (s < 0) = true := decide_eq_true s0
    obtain ⟨rfl, rfl⟩ : 0 = a ∧ 0 = b := by have := HAB.out; rw [range_no (by omega)] at this; injection this with z1 z2; exact ⟨z1, z2⟩
    clear c0 c1 c2 c3
    go_wp2_with fail
    go_ret2
    exact ⟨rfl, B1.out⟩
  have d0 : decide (s < 0) = false := decide_eq_false s0
  by_cases s1 : (n1 : Int) ≤ s
  · have d1 : decide ((n1 : Int) ≤ s) = true := decide_eq_true s1
    obtain ⟨rfl, rfl⟩ : 0 = a ∧ 0 = b := by have := HAB.out; rw [range_no (by rw [← HST.out, ← L1.out]; omega)] at this; injection this with z1 z2; exact ⟨z1, z2⟩
    clear c0 c1 c2 c3
    go_wp2_with fail
    go_ret2
    exact ⟨rfl, B1.out⟩
  have d1 : decide ((n1 : Int) ≤ s) = false := decide_eq_false s1
  obtain ⟨j, rfl⟩ : ∃ j : Nat, s = j := ⟨s.toNat, by omega⟩
  have jn : j < n1 := by omega
  have d2 : decide (n1 ≤ j) = false := by simp; omega
  obtain ⟨ha, hb2⟩ : totP ((st.take j).map (atN ⟨c, h, x, ls⟩)) = a ∧ (atN ⟨c, h, x, ls⟩ (st.getD j 0)).p = b := by
    have := HAB.out
    rw [range_yes (by rw [← HST.out, ← L1.out]; exact jn), ← HST.out] at this
    injection this with z1 z2
    exact ⟨z1, z2⟩
  have HA := Lib.hid ha; have HB := Lib.hid hb2
  obtain ⟨bS, oS, rfl, lS, qS⟩ := R1.out (by rw [← L1.out]; omega)
  have QS := Lib.hid qS
  have BD : Hid (∀ k, 0 ≤ totP ((st.take k).map (atN ⟨c, h, x, ls⟩)) ∧ totP ((st.take k).map (atN ⟨c, h, x, ls⟩)) ≤ 100000000) := fun k => by
    have := tot_bd ((st.take k).map (atN ⟨c, h, x, ls⟩)) (fun y hy => by obtain ⟨i, _, rfl⟩ := List.mem_map.1 hy; exact at_ok _ _)
    rw [List.length_map, List.length_take, ← L1.out] at this
    have : min k n1 ≤ 60 := by omega
    omega
  clear ha hb2 qS s0 s1
  go_wp2_with fail
  clear c0 c1 c2 c3
  go_loopg [7, 8] j (fun g s7 s8 wx => ∃ k : Nat, k ≤ j ∧ Hid (g = j - k) ∧ s7 = .int .i64 (totP ((st.take k).map (atN ⟨c, h, x, ls⟩))) ∧ s8 = .int .i64 (k : Int) ∧ Hid (Below w1.heap.size w1 wx))
  case atStart => exact ⟨0, by omega, by show _ = _; omega, rfl, rfl, Below.refl _ _⟩
  case round =>
    obtain ⟨k, hk, HG, rfl, rfl, BK⟩ := hrel
    have BW := Lib.hid (chain B1.out BK.out)
    have NW := Lib.hid (N1.out.below BK.out)
    obtain ⟨c0, c1, c2, c3⟩ := NW.out.cells
    have lN := NW.out.lt
    have kl : k < st.length := by rw [← L1.out]; omega
    obtain ⟨y, hy⟩ : ∃ y, y = st.getD k 0 := ⟨_, rfl⟩
    have gk := st_get kl
    rw [← hy] at gk
    have z0 := (BK.out.cell (p := ⟨bS, oS + k, none⟩) lS).trans (in_cell QS.out gk)
    have lS' := Nat.lt_of_lt_of_le lS BK.out.size
    obtain ⟨t, ht⟩ : ∃ t, t = totP ((st.take k).map (atN ⟨c, h, x, ls⟩)) := ⟨_, rfl⟩
    obtain ⟨q, hq⟩ : ∃ q, q = (atN ⟨c, h, x, ls⟩ y).p := ⟨_, rfl⟩
    obtain ⟨t0, t1⟩ := BD.out k
    have KP : Hid (∀ w', Rl w' A ls → Calls Tryz.prog 46 #[.agg #[.int .i64 c, .int .i64 h, .int .i64 x, .slice A n cA], .int .i64 y] w' fun e w'' => e = .returned (.int .i64 q) ∧ Below w'.heap.size w' w'') := fun w' z => by rw [hq]; exact rproducts_of c h x A cA n ls y w' z LX.out hn1
    have q01 := (at_ok ⟨c, h, x, ls⟩ y).p
    rw [← hq] at q01
    rw [← ht] at t0 t1
    rw [← ht]
    have HT : Hid (totP ((st.take (k + 1)).map (atN ⟨c, h, x, ls⟩)) = t + q) := by
      show _ = _
      rw [take_get gk, List.map_append, ht, hq]
      exact (tot_snoc _ _).2
    obtain ⟨q0, q1⟩ := q01
    have HQ := Lib.hid hq; have HY := Lib.hid hy; have HTT := Lib.hid ht
    have HC0 : Hid (Below wr.heap.size wr wr.drew) := below_drew wr
    have ka : (0 : Int) ≤ (k : Int) := by omega
    clear gk ht hq hy
    by_cases kj : k < j
    · have ki : (k : Int) < (j : Int) := by omega
      have kn1 : (k : Int) < (n1 : Int) := by omega
      have kn2 : k < n1 := by omega
      have v1 : IntKind.i64.wrap (t + q) = t + q := IntWalk.i64_in _ (by omega)
      have v2 : wrap64 (t + q) = t + q := IntWalk.wrap64_in _ (by omega)
      go_wp2_with fail
      go_region_held3 (fun w' => w'.cell? ⟨w.heap.size, 0, none⟩ = some (.int .i64 c) ∧ w'.cell? ⟨w.heap.size, 1, none⟩ = some (.int .i64 h) ∧ w'.cell? ⟨w.heap.size, 2, none⟩ = some (.int .i64 x) ∧ w'.cell? ⟨w.heap.size, 3, none⟩ = some (.slice A n cA) ∧ w'.cell? ⟨bS, oS + k, none⟩ = some (.int .i64 y))
        (first | exact ⟨g0, g1, g2, g3, g4⟩ | go_keep)
        (first
          | ((go_at_call 46; (with_reducible refine (KP.out _ (HX.out.below (chain BW.out HC0.out))).mono ?_); rintro e w2 ⟨rfl, hb2⟩
              have HC1 := Lib.hid (HC0.out.trans (hb2.mono HC0.out.size))
              have g0 := (HC1.out.cell (p := ⟨w.heap.size, 0, none⟩) lN).trans c0
              have g1 := (HC1.out.cell (p := ⟨w.heap.size, 1, none⟩) lN).trans c1
              have g2 := (HC1.out.cell (p := ⟨w.heap.size, 2, none⟩) lN).trans c2
              have g3 := (HC1.out.cell (p := ⟨w.heap.size, 3, none⟩) lN).trans c3
              have g4 := (HC1.out.cell (p := ⟨bS, oS + k, none⟩) lS').trans z0
              clear hb2))
          | fail)
      have B2 := Lib.hid (chain BK.out HC1.out)
      clear c0 c1 c2 c3 g0 g1 g2 g3 g4 HC0 HC1
      go_wp2_with fail
      go_roundg (j - (k + 1))
      case measure => have := HG.out; omega
      case rel => exact ⟨k + 1, by omega, rfl, by rw [HT.out], by go_num, B2⟩
    · obtain rfl : k = j := by omega
      have kn1 : (k : Int) < (n1 : Int) := by omega
      have kn2 : k < n1 := by omega
      obtain rfl : t = a := HTT.out.trans HA.out
      obtain rfl : q = b := by rw [HQ.out, HY.out]; exact HB.out
      go_wp2_with fail
      go_region_held3 (fun w' => w'.cell? ⟨w.heap.size, 0, none⟩ = some (.int .i64 c) ∧ w'.cell? ⟨w.heap.size, 1, none⟩ = some (.int .i64 h) ∧ w'.cell? ⟨w.heap.size, 2, none⟩ = some (.int .i64 x) ∧ w'.cell? ⟨w.heap.size, 3, none⟩ = some (.slice A n cA) ∧ w'.cell? ⟨bS, oS + k, none⟩ = some (.int .i64 y))
        (first | exact ⟨g0, g1, g2, g3, g4⟩ | go_keep)
        (first
          | ((go_at_call 46; (with_reducible refine (KP.out _ (HX.out.below (chain BW.out HC0.out))).mono ?_); rintro e w2 ⟨rfl, hb2⟩
              have HC1 := Lib.hid (HC0.out.trans (hb2.mono HC0.out.size))
              have g0 := (HC1.out.cell (p := ⟨w.heap.size, 0, none⟩) lN).trans c0
              have g1 := (HC1.out.cell (p := ⟨w.heap.size, 1, none⟩) lN).trans c1
              have g2 := (HC1.out.cell (p := ⟨w.heap.size, 2, none⟩) lN).trans c2
              have g3 := (HC1.out.cell (p := ⟨w.heap.size, 3, none⟩) lN).trans c3
              have g4 := (HC1.out.cell (p := ⟨bS, oS + k, none⟩) lS').trans z0
              clear hb2))
          | fail)
      have B2 := Lib.hid (chain BW.out HC1.out)
      clear c0 c1 c2 c3 g0 g1 g2 g3 g4 HC0 HC1
      go_wp2_with fail
      go_ret2
      exact ⟨rfl, B2.out⟩

theorem gatesL_next (K : Kn) (i : Int) (m : Nat) : gatesL K i (m + 1) = gatesL K i m ++ gatesP K i m := by
  unfold gatesL; rw [List.range_succ, List.flatMap_append]; simp
theorem gatesK_mono (N : Nt) : ∀ {k m : Nat}, k ≤ m → (gatesK N k).length ≤ (gatesK N m).length
  | k, 0, h => by obtain rfl : k = 0 := by omega
                  exact Nat.le_refl _
  | k, m + 1, h => by
    by_cases e : k = m + 1
    · subst e; exact Nat.le_refl _
    · rw [gatesK_next, List.length_append]; have := gatesK_mono N (show k ≤ m by omega); omega
theorem gatesT_take (i p : Int) {ts : List Tm} {k : Nat} {t : Tm} (h : ts[k]? = some t) : gatesT i p 0 (ts.take (k + 1)) = gatesT i p 0 (ts.take k) ++ [⟨i, p, (k : Nat), t.x, t.w⟩] := by
  have hk := (List.getElem?_eq_some_iff.1 h).1
  rw [take_get h, gatesT_app, List.length_take, Nat.zero_add, Nat.min_eq_left (by omega)]

set_option maxHeartbeats 4000000 in
set_option maxRecDepth 100000 in
theorem rgates8 (c h x : Int) (A : Option Addr) (cA n : Nat) (ls : List Ly) (w : World) (hx : Rl w A ls) (ln : n = ls.length) (hn : n ≤ 60) :
    Calls Tryz.prog 25 #[.agg #[.int .i64 c, .int .i64 h, .int .i64 x, .slice A n cA]] w (RowTo gcells (gatesN ⟨c, h, x, ls⟩) w) := by
  obtain ⟨i0, hi, hz0, hz1, hz2⟩ := info_parts Tryz.info50
  obtain ⟨er, her⟩ : ∃ er, er = errN ⟨c, h, x, ls⟩ := ⟨_, rfl⟩
  have HER := Lib.hid her
  clear her
  have HX := Lib.hid hx; have LX := Lib.hid ln
  have hn1 : n ≤ 1000 := by omega
  clear hx ln
  go_enter Tryz.func25, Tryz.ntmps25
  go_wp2_with fail
  refine (rshapes_any c h x A cA n ls _ (HX.out.below ((Below.refl _ w).alloc (Nat.le_refl _) _)) LX.out hn1).mono ?_
  rintro e w1 ⟨A1, k1, n1, rfl, hn1', hR, hb, hd1, hd2⟩
  rw [← HER.out]
  have B1 := Lib.hid (chain ((Below.refl w.heap.size w).alloc (Nat.le_refl _) _) hb)
  have N1 := Lib.hid ((NB.new w c h x (.slice A n cA)).below hb)
  obtain ⟨c0, c1, c2, c3⟩ := N1.out.cells
  have R1 := Lib.hid hR; have L1 := Lib.hid hn1'
  clear hb hR hd1 hd2 hn1'
  by_cases h0 : ¬ er = 0
  · have b0 : (er == 0) = false := by simpa using h0
    have E0 : Hid (gatesN ⟨c, h, x, ls⟩ = []) := if_neg (by rw [← HER.out]; exact h0)
    clear h0
    go_wp2_with fail
    clear c0 c1 c2 c3
    go_loopg [5, 6, 7, 8, 9] 1 (fun g s5 s6 _ _ _ wx => Hid (g = 1) ∧ s5 = .slice none 0 0 ∧ s6 = .int .i64 0 ∧ Hid (Below w1.heap.size w1 wx))
    case atStart => exact ⟨rfl, rfl, rfl, Below.refl _ _⟩
    case round =>
      obtain ⟨HG, rfl, rfl, BK⟩ := hrel
      have BW := Lib.hid (chain B1.out BK.out)
      have NW := Lib.hid (N1.out.below BK.out)
      obtain ⟨c0, c1, c2, c3⟩ := NW.out.cells
      by_cases n0 : 0 < n
      · have n0i : (0 : Int) < (n : Int) := by omega
        go_wp2_with fail
        go_ret
        exact ⟨none, 0, 0, rfl, by rw [E0.out]; rfl, by rw [E0.out]; exact Rg.nil _ _ _, BW.out, Nat.le_refl _, Nat.zero_le _⟩
      · obtain rfl : n = 0 := by omega
        go_wp2_with fail
        go_ret
        exact ⟨none, 0, 0, rfl, by rw [E0.out]; rfl, by rw [E0.out]; exact Rg.nil _ _ _, BW.out, Nat.le_refl _, Nat.zero_le _⟩
  have h0 : er = 0 := by omega
  have b0 : (er == 0) = true := by rw [h0]; rfl
  have he : errN ⟨c, h, x, ls⟩ = 0 := HER.out.symm.trans h0
  have HE := Lib.hid he
  have n8 : n ≤ 8 := by rw [LX.out]; exact (ok_all he).2.2.2.2.2
  have hR := R1.out
  have hl1 := L1.out
  rw [shN_ok he] at hR hl1
  rw [sh_len, ← LX.out] at hl1
  obtain ⟨bS, oS, rfl, lS, qS⟩ := hR (by rw [sh_len]; omega)
  have QS := Lib.hid qS; have HL1 := Lib.hid hl1
  have GL : Hid (∀ i p : Nat, i < n → (p : Int) ≤ (atN ⟨c, h, x, ls⟩ (i : Nat)).u.n → (gatesK ⟨c, h, x, ls⟩ i ++ gatesL (atN ⟨c, h, x, ls⟩ (i : Nat)) (i : Nat) p).length ≤ 512) := fun i p hin hp => by
    have g : Good (atN ⟨c, h, x, ls⟩ (i : Nat)) := good_at (isB_yes ⟨HE.out, by omega, by show (i : Int) < (ls.length : Int); rw [← LX.out]; omega⟩)
    have h1 : (gatesK ⟨c, h, x, ls⟩ (i + 1)).length ≤ 512 := Nat.le_trans (gatesK_mono _ (show i + 1 ≤ ls.length by rw [← LX.out]; omega)) (by rw [← show gatesN ⟨c, h, x, ls⟩ = gatesK ⟨c, h, x, ls⟩ ls.length from if_pos HE.out]; exact gates_bd)
    rw [gatesK_next, List.length_append, gatesL_len g] at h1
    rw [List.length_append, gatesL_len g]
    have : p * (perK (atN ⟨c, h, x, ls⟩ (i : Nat))).toNat ≤ (atN ⟨c, h, x, ls⟩ (i : Nat)).u.n.toNat * (perK (atN ⟨c, h, x, ls⟩ (i : Nat))).toNat := Nat.mul_le_mul_right _ (by omega)
    omega
  clear h0 he hR hl1 qS
  go_wp2_with fail
  clear c0 c1 c2 c3
  go_loopg [5, 6, 7, 8, 9] n (fun g s5 s6 _ _ _ wx => ∃ i : Nat, i ≤ n ∧ Hid (g = n - i) ∧ s6 = .int .i64 (i : Int) ∧ Hid (wx.ownsRow w1.heap.size 50 5 s5 (gatesK ⟨c, h, x, ls⟩ i).length ((gatesK ⟨c, h, x, ls⟩ i).flatMap gcells)) ∧ Hid (Below w1.heap.size w1 wx))
  case atStart => exact ⟨0, by omega, by show _ = _; omega, rfl, World.ownsRow_nil _ _ _ _, Below.refl _ _⟩
  case round =>
    obtain ⟨i, hi', HG, rfl, OW, BK⟩ := hrel
    have BW := Lib.hid (chain B1.out BK.out)
    have NW := Lib.hid (N1.out.below BK.out)
    obtain ⟨c0, c1, c2, c3⟩ := NW.out.cells
    by_cases iN : i < n
    · have ii : (i : Int) < (n : Int) := by omega
      have il : i < ls.length := by rw [← LX.out]; exact iN
      obtain ⟨K, hK⟩ : ∃ K, K = atN ⟨c, h, x, ls⟩ (i : Nat) := ⟨_, rfl⟩
      have hl := get_ly il
      have hKe := hK.trans (at_some HE.out hl)
      have g2 := sh_get ls ⟨c, h, x⟩ (i + 1) (by omega)
      rw [show endS ⟨c, h, x⟩ (ls.take (i + 1)) = K.u by rw [hKe, List.take_add_one, hl, Option.toList, end_app]; rfl] at g2
      obtain ⟨m, hm⟩ : ∃ m, m = i + 1 := ⟨_, rfl⟩
      have hl1 := HL1.out
      have ma : (0 : Int) ≤ (m : Int) := by omega
      have mb : (m : Int) < (n1 : Int) := by omega
      have mb' : m < n1 := by omega
      have v1 : IntKind.i64.wrap ((i : Int) + 1) = (m : Int) := next_i64 hm (Nat.lt_succ_self i) (by omega)
      have v2 : wrap64 ((i : Int) + 1) = (m : Int) := next_wrap hm (Nat.lt_succ_self i) (by omega)
      rw [← hm] at g2
      have G2 := Lib.hid g2
      have V1 := Lib.hid v1; have V2 := Lib.hid v2
      clear v1 v2
      have GD : Hid (Good K) := by rw [hK]; exact good_at (isB_yes ⟨HE.out, by omega, by show (i : Int) < (ls.length : Int); omega⟩)
      have un := size_bd K.u
      obtain ⟨ku, hku⟩ : ∃ ku : Nat, K.u.n = ku := ⟨K.u.n.toNat, by omega⟩
      have ku8 : ku ≤ 128 := by omega
      have PS : Hid (∀ w, Calls Tryz.prog 32 #[.agg #[.int .i64 K.u.c, .int .i64 K.u.h, .int .i64 K.u.x]] w fun e w' => e = .returned (.int .i64 (ku : Int)) ∧ Below w.heap.size w w') := fun w => by rw [← hku]; exact rsize_any _ _ _ w
      have TK : Hid (∀ p : Nat, p < ku → termsN ⟨c, h, x, ls⟩ (i : Nat) (p : Nat) = termsK K (p : Nat) ∧ (termsK K (p : Nat)).length ≤ 1152) := fun p hp => by
        have hh : hasK K (p : Nat) = true := has_yes (by omega) (by omega)
        refine ⟨by have := hh; rw [hK] at this ⊢; exact termsN_is this, ?_⟩
        have h1 := terms_len GD.out (p : Nat)
        have h2 := per_bd GD.out
        omega
      have GLK : Hid (∀ p : Nat, p ≤ ku → (gatesK ⟨c, h, x, ls⟩ i ++ gatesL K (i : Nat) p).length ≤ 512) := fun p hp => by rw [hK]; exact GL.out i p iN (by rw [← hK]; omega)
      have GN : Hid (gatesK ⟨c, h, x, ls⟩ (i + 1) = gatesK ⟨c, h, x, ls⟩ i ++ gatesL K (i : Nat) ku) := by show _ = _; rw [gatesK_next, ← hK, hku]; rfl
      clear hK hKe hl g2 hl1 un hku hm il
      go_wp2_with fail
      clear c0 c1 c2 c3
      go_loopg [5, 7, 8, 9] ku (fun g s5 s7 _ _ wx => ∃ p : Nat, p ≤ ku ∧ Hid (g = ku - p) ∧ s7 = .int .i64 (p : Int) ∧ Hid (wx.ownsRow w1.heap.size 50 5 s5 (gatesK ⟨c, h, x, ls⟩ i ++ gatesL K (i : Nat) p).length ((gatesK ⟨c, h, x, ls⟩ i ++ gatesL K (i : Nat) p).flatMap gcells)) ∧ Hid (Below w1.heap.size w1 wx))
      case atStart => exact ⟨0, by omega, by show _ = _; omega, rfl, by show World.ownsRow _ _ _ _ _ _ _; simpa [gatesL] using OW.out, BK⟩
      case round =>
        obtain ⟨p, hp, HG2, rfl, OP, BP⟩ := hrel
        have q2 : ∀ j u, ((shL ⟨c, h, x⟩ ls).flatMap scells)[j]? = some u → wr.cell? ⟨bS, oS + j, none⟩ = some u := fun j u hu => (BP.out.cell (p := ⟨bS, oS + j, none⟩) lS).trans (QS.out j u hu)
        obtain ⟨t0, t1, t2⟩ := sh_at q2 G2.out
        clear q2
        have v1 := V1.out
        have v2 := V2.out
        go_wp2_with fail
        refine (PS.out _).mono ?_
        rintro e w3 ⟨rfl, hb⟩
        clear v1 v2
        have B3 := Lib.hid (chain BP.out hb)
        have O3 := Lib.hid (own_belowE OP.out hb)
        have BW3 := Lib.hid (chain B1.out B3.out)
        have NW3 := Lib.hid (N1.out.below B3.out)
        clear hb OP BP t0 t1 t2
        obtain ⟨c0, c1, c2, c3⟩ := NW3.out.cells
        by_cases pk : p < ku
        · have pki : (p : Int) < (ku : Int) := by omega
          obtain ⟨ts, hts⟩ : ∃ ts, ts = termsK K (p : Nat) := ⟨_, rfl⟩
          obtain ⟨tk1, tk2⟩ := TK.out p pk
          rw [← hts] at tk1 tk2
          have TK1 := Lib.hid tk1; have TK2 := Lib.hid tk2; have HTS := Lib.hid hts
          clear tk1 tk2 hts
          go_wp2_with fail
          refine (rterms_new c h x A cA n ls (i : Int) (p : Int) _ (HX.out.below BW3.out) LX.out hn1).mono ?_
          rintro e w4 ⟨A4, k4, n4, rfl, hn4, hR4, hb, hd1, hd2, hnew⟩
          rw [TK1.out] at hn4 hR4
          have B4 := Lib.hid (chain B3.out hb)
          have O4 := Lib.hid (own_belowE O3.out hb)
          have R4 := Lib.hid hR4; have L4 := Lib.hid hn4
          have NEQ : Hid (∀ a, A4 = some a → u5.ownBlock ≠ some a.block) := fun a ha he => by
            have := (O3.out.lt _ he).2
            have := hnew a ha
            omega
          have n1152 : n4 ≤ 1152 := by rw [hn4]; exact TK2.out
          have gl := GLK.out p hp
          clear hb hR4 hn4 hd1 hd2 hnew O3 B3 c0 c1 c2 c3 BW3 NW3
          go_wp2_with fail
          go_loopg [5, 9] n4 (fun g s5 s9 wx => ∃ k : Nat, k ≤ n4 ∧ Hid (g = n4 - k) ∧ s9 = .int .i64 (k : Int) ∧ Hid (wx.ownsRow w1.heap.size 50 5 s5 (gatesK ⟨c, h, x, ls⟩ i ++ gatesL K (i : Nat) p ++ gatesT (i : Nat) (p : Nat) 0 (ts.take k)).length ((gatesK ⟨c, h, x, ls⟩ i ++ gatesL K (i : Nat) p ++ gatesT (i : Nat) (p : Nat) 0 (ts.take k)).flatMap gcells)) ∧ Hid (Rg tcells wx A4 ts) ∧ Hid (∀ a, A4 = some a → s5.ownBlock ≠ some a.block) ∧ Hid (Below w1.heap.size w1 wx))
          case atStart => exact ⟨0, by omega, by show _ = _; omega, rfl, by show World.ownsRow _ _ _ _ _ _ _; simpa [gatesT] using O4.out, R4, NEQ, B4⟩
          case round =>
            obtain ⟨k, hk, HG3, rfl, OK, RK, NK, BK3⟩ := hrel
            by_cases kn : k < n4
            · have ki : (k : Int) < (n4 : Int) := by omega
              have ka : (0 : Int) ≤ (k : Int) := by omega
              obtain ⟨t, ht⟩ : ∃ t, ts[k]? = some t := ⟨_, List.getElem?_eq_getElem (by rw [← L4.out]; exact kn)⟩
              obtain ⟨b4, o4, rfl, l4, q4⟩ := RK.out (by rw [← L4.out]; omega)
              have z0 := (Rg.at tcells_len q4 ht) 0 _ rfl
              have z1 := (Rg.at tcells_len q4 ht) 1 _ rfl
              rw [Nat.add_zero] at z0
              have HT := Lib.hid ht
              have E1 : Hid (gatesK ⟨c, h, x, ls⟩ i ++ gatesL K (i : Nat) p ++ gatesT (i : Nat) (p : Nat) 0 (ts.take (k + 1)) = (gatesK ⟨c, h, x, ls⟩ i ++ gatesL K (i : Nat) p ++ gatesT (i : Nat) (p : Nat) 0 (ts.take k)) ++ [⟨(i : Nat), (p : Nat), (k : Nat), t.x, t.w⟩]) := by show _ = _; rw [gatesT_take _ _ ht, ← List.append_assoc]
              obtain ⟨L, hL⟩ : ∃ L, L = (gatesK ⟨c, h, x, ls⟩ i ++ gatesL K (i : Nat) p ++ gatesT (i : Nat) (p : Nat) 0 (ts.take k)).length := ⟨_, rfl⟩
              have L0 : L ≤ 2000 := by
                rw [hL, List.length_append, gatesT_len, List.length_take]
                omega
              have hO := OK.out
              rw [← hL] at hO
              have O5 := Lib.hid hO
              have HL := Lib.hid hL
              have a1 : u5.ownBlock ≠ some b4 := NK.out _ rfl
              have A1' := Lib.hid a1
              have Q4 := Lib.hid q4
              have hs := BK3.out.size
              obtain ⟨tx, hx'⟩ : ∃ tx, tx = t.x := ⟨_, rfl⟩
              obtain ⟨tw, hw'⟩ : ∃ tw, tw = t.w := ⟨_, rfl⟩
              have z0 : wr.cell? ⟨b4, o4 + k * 2, none⟩ = some (.int .i64 tx) := by rw [hx']; exact z0
              have z1 : wr.cell? ⟨b4, o4 + k * 2 + 1, none⟩ = some (.int .i64 tw) := by rw [hw']; exact z1
              have HXW := Lib.hid (And.intro hx' hw')
              clear q4 ht hO hL a1 OK hx' hw'
              go_wp2_with fail
              go_region_held3 (fun w' => w'.cell? ⟨b4, o4 + k * 2, none⟩ = some (.int .i64 tx) ∧ w'.cell? ⟨b4, o4 + k * 2 + 1, none⟩ = some (.int .i64 tw))
                (first
                  | exact ⟨z0, z1⟩
                  | (simp only [World.cell?_alloc_some, World.cell?_drew, z0, z1, Option.isSome_some, and_self]; done)
                  | go_keep
                  | (go_split_ands
                     refine ⟨?_, ?_⟩
                     · (rw [hgrow.cell_far _ (by simp; omega) (Ne.symm A1'.out)]; assumption)
                     · (rw [hgrow.cell_far _ (by simp; omega) (Ne.symm A1'.out)]; assumption)))
                ((refine step_append_lies _ (by rfl) _ _ _ (by rfl) w1.heap.size 50 i0 _ 5 40 Tryz.underlying47 hi hz0 hz1 hz2 rfl (by omega) u5 L _ (by rfl) ((O5.out.alloc _).drew) ⟨wr.heap.size, 0, none⟩ 1 1 [.int .i64 (i : Int), .int .i64 (p : Int), .int .i64 (k : Int), .int .i64 tx, .int .i64 tw] (by rfl) (by rfl) (World.news_of_block (cs := #[.int .i64 (i : Int), .int .i64 (p : Int), .int .i64 (k : Int), .int .i64 tx, .int .i64 tw]) (t := 50) (fr := (0, 0)) (heap_alloc_new wr _)) (by simp [Value.oneCell']) (by omega) (by unfold maxLen; omega) (by omega) (by simp; omega) (wr.heap.size + 1) (by simp) ?_; intro gg cap w5 hown2 hgrow hat hlt2))
              have O6 : Hid (w5.ownsRow w1.heap.size 50 5 (.slice (some ⟨gg, 0, none⟩) (L + 1) cap) (gatesK ⟨c, h, x, ls⟩ i ++ gatesL K (i : Nat) p ++ gatesT (i : Nat) (p : Nat) 0 (ts.take (k + 1))).length ((gatesK ⟨c, h, x, ls⟩ i ++ gatesL K (i : Nat) p ++ gatesT (i : Nat) (p : Nat) 0 (ts.take (k + 1))).flatMap gcells)) := by
                show World.ownsRow _ _ _ _ _ _ _
                rw [E1.out, List.length_append, ← HL.out, List.flatMap_append]
                simp only [List.flatMap_cons, List.flatMap_nil, List.append_nil, gcells, List.length_cons, List.length_nil]
                rw [← HXW.out.1, ← HXW.out.2]
                exact hown2
              have B6 : Hid (Below w1.heap.size w1 w5) := ((BK3.out.alloc hs _).drew).grown hgrow (by simp; omega) (fun q hqq => (O5.out.lt _ hqq).1)
              have R6 : Hid (Rg tcells w5 (some ⟨b4, o4, none⟩) ts) := fun _ => ⟨b4, o4, rfl, by have := hgrow.size; simp at this; omega, fun j u hu => by
                rw [hgrow.cell_far _ (by simp; omega) (Ne.symm A1'.out)]
                have := Q4.out j u hu
                simp [World.cell?_alloc_some, this]⟩
              have N6 : Hid (∀ a, (some (⟨b4, o4, none⟩ : Addr)) = some a → (Value.slice (some ⟨gg, 0, none⟩) (L + 1) cap).ownBlock ≠ some a.block) := fun a ha he => by
                rw [← Option.some.inj ha] at he
                simp [Value.ownBlock] at he
                rcases hat with hat | hat
                · exact A1'.out (by rw [hat, he])
                · omega
              clear hown2 hgrow hat hlt2 O5 A1' Q4 hs z0 z1
              go_wp2_with fail
              go_roundg (n4 - (k + 1))
              case measure => have := HG3.out; omega
              case rel => exact ⟨k + 1, by omega, rfl, by go_num, O6, R6, N6, B6⟩
            · obtain rfl : k = n4 := by omega
              have e4 : ts.take k = ts := by rw [L4.out, List.take_length]
              have O7 : Hid (wr.ownsRow w1.heap.size 50 5 u5 (gatesK ⟨c, h, x, ls⟩ i ++ gatesL K (i : Nat) (p + 1)).length ((gatesK ⟨c, h, x, ls⟩ i ++ gatesL K (i : Nat) (p + 1)).flatMap gcells)) := by
                have := OK.out
                rw [e4] at this
                show World.ownsRow _ _ _ _ _ _ _
                rw [gatesL_next, ← List.append_assoc]
                unfold gatesP
                rw [← HTS.out]
                exact this
              clear e4
              go_wp2_with fail
              go_roundg (ku - (p + 1))
              case measure => have := HG2.out; omega
              case rel => exact ⟨p + 1, by omega, rfl, by go_num, O7, BK3⟩
        · obtain rfl : p = ku := by omega
          have O7 : Hid (w3.ownsRow w1.heap.size 50 5 u5 (gatesK ⟨c, h, x, ls⟩ (i + 1)).length ((gatesK ⟨c, h, x, ls⟩ (i + 1)).flatMap gcells)) := by
            show World.ownsRow _ _ _ _ _ _ _
            rw [GN.out]; exact O3.out
          go_wp2_with fail
          go_roundg (n - (i + 1))
          case measure => have := HG.out; omega
          case rel => exact ⟨i + 1, by omega, rfl, by go_num, O7, B3⟩
    · obtain rfl : i = n := by omega
      have E0 : Hid (gatesN ⟨c, h, x, ls⟩ = gatesK ⟨c, h, x, ls⟩ i) := by show _ = _; rw [show gatesN ⟨c, h, x, ls⟩ = gatesK ⟨c, h, x, ls⟩ ls.length from if_pos HE.out, LX.out]
      obtain ⟨A', c', rfl, e1, hr, e3, e4⟩ := own_cap gcells_len (by decide) OW.out
      have HR := Lib.hid hr; have E3 := Lib.hid e3; have E4 := Lib.hid e4
      clear hr e1 e3 e4
      go_wp2_with fail
      go_ret
      exact ⟨A', c', _, rfl, by rw [E0.out], by rw [E0.out]; exact HR.out, BW.out, E3.out, E4.out⟩

def GC (w : World) (b : Nat) (g : Gt) : Prop := w.heap[b]? = some (.cells #[.int .i64 g.l, .int .i64 g.a, .int .i64 g.t, .int .i64 g.x, .int .i64 g.w] 50 (0, 0))
theorem GC.lt {w : World} {b : Nat} {g : Gt} (H : GC w b g) : b < w.heap.size := (Array.getElem?_eq_some_iff.1 H).1
theorem GC.below {w w' : World} {b : Nat} {g : Gt} (H : GC w b g) (hb : Below w.heap.size w w') : GC w' b g := (hb.block b H.lt).trans H
theorem GC.cells {w : World} {b : Nat} {g : Gt} (H : GC w b g) : w.cell? ⟨b, 0, none⟩ = some (.int .i64 g.l) ∧ w.cell? ⟨b, 1, none⟩ = some (.int .i64 g.a) ∧ w.cell? ⟨b, 2, none⟩ = some (.int .i64 g.t) ∧ w.cell? ⟨b, 3, none⟩ = some (.int .i64 g.x) ∧ w.cell? ⟨b, 4, none⟩ = some (.int .i64 g.w) := by
  refine ⟨?_, ?_, ?_, ?_, ?_⟩ <;> (rw [Lib.cell_of_heap H]; rfl)
theorem GC.frozen {w : World} {b : Nat} {g : Gt} (H : GC w b g) (j : Nat) : w.frozen? ⟨b, j, none⟩ = false := Lib.frozen_of_heap H j
def gv (g : Gt) : Value := .agg #[.int .i64 g.l, .int .i64 g.a, .int .i64 g.t, .int .i64 g.x, .int .i64 g.w]
theorem below_set5 {w0 w : World} {B b : Nat} (H : Below B w0 w) (hb : B ≤ b) (v0 v1 v2 v3 v4 : Value) :
    Below B w0 (((((w.setCell ⟨b, 0, none⟩ v0).setCell ⟨b, 1, none⟩ v1).setCell ⟨b, 2, none⟩ v2).setCell ⟨b, 3, none⟩ v3).setCell ⟨b, 4, none⟩ v4) :=
  ((((H.setCell (p := ⟨b, 0, none⟩) hb _).setCell (p := ⟨b, 1, none⟩) hb _).setCell (p := ⟨b, 2, none⟩) hb _).setCell (p := ⟨b, 3, none⟩) hb _).setCell (p := ⟨b, 4, none⟩) hb _

theorem range_bd {c h x : Int} {ls : List Ly} (hn : ls.length ≤ 60) (s : Int) : (0 ≤ (rangeN ⟨c, h, x, ls⟩ s).1 ∧ (rangeN ⟨c, h, x, ls⟩ s).1 ≤ 100000000) ∧ (0 ≤ (rangeN ⟨c, h, x, ls⟩ s).2 ∧ (rangeN ⟨c, h, x, ls⟩ s).2 ≤ 2000000) := by
  unfold rangeN
  split
  · have l60 : (stagesN ⟨c, h, x, ls⟩).length ≤ 60 := by
      unfold stagesN
      split
      · have := stK_len ls ls.length; show (stK ls ls.length).length ≤ 60; omega
      · simp
    have := tot_bd (((stagesN ⟨c, h, x, ls⟩).take s.toNat).map (atN ⟨c, h, x, ls⟩)) (fun y hy => by obtain ⟨i, _, rfl⟩ := List.mem_map.1 hy; exact at_ok _ _)
    rw [List.length_map, List.length_take] at this
    have : min s.toNat (stagesN ⟨c, h, x, ls⟩).length ≤ 60 := by omega
    have p := (at_ok ⟨c, h, x, ls⟩ ((stagesN ⟨c, h, x, ls⟩).getD s.toNat 0)).p
    exact ⟨⟨by omega, by omega⟩, ⟨p.1, by have := p.2; omega⟩⟩
  · exact ⟨⟨by decide, by decide⟩, ⟨by decide, by decide⟩⟩

set_option maxHeartbeats 2000000 in
set_option maxRecDepth 100000 in
theorem rline8 (c h x : Int) (A : Option Addr) (cA n : Nat) (ls : List Ly) (s : Int) (a b : Int) (hab : lineN ⟨c, h, x, ls⟩ s = (a, b)) (w : World) (hx : Rl w A ls) (ln : n = ls.length) (hn : n ≤ 60) :
    Calls Tryz.prog 40 #[.agg #[.int .i64 c, .int .i64 h, .int .i64 x, .slice A n cA], .int .i64 s] w fun e w' => e = .returned (.tuple #[.int .i64 a, .int .i64 b]) ∧ Below w.heap.size w w' := by
  have HAB := Lib.hid hab
  obtain ⟨er, her⟩ : ∃ er, er = errN ⟨c, h, x, ls⟩ := ⟨_, rfl⟩
  have HER := Lib.hid her
  obtain ⟨ra, hra⟩ : ∃ ra, ra = (rangeN ⟨c, h, x, ls⟩ s).1 := ⟨_, rfl⟩
  obtain ⟨rb, hrb⟩ : ∃ rb, rb = (rangeN ⟨c, h, x, ls⟩ s).2 := ⟨_, rfl⟩
  have HRA := Lib.hid hra; have HRB := Lib.hid hrb
  have bd := range_bd (c := c) (h := h) (x := x) (ls := ls) (by rw [← ln]; exact hn) s
  rw [← hra, ← hrb] at bd
  obtain ⟨⟨ra0, ra1⟩, ⟨rb0, rb1⟩⟩ := bd
  have RNG : Hid (∀ w', Rl w' A ls → n = ls.length → Calls Tryz.prog 24 #[.agg #[.int .i64 c, .int .i64 h, .int .i64 x, .slice A n cA], .int .i64 s] w' fun e w'' => e = .returned (.tuple #[.int .i64 ra, .int .i64 rb]) ∧ Below w'.heap.size w' w'') := fun w' z1 z2 =>
    rrange8 c h x A cA n ls s ra rb (by rw [hra, hrb]) w' z1 z2 hn
  clear hab her hra hrb
  have HX := Lib.hid hx; have LX := Lib.hid ln
  have hn1 : n ≤ 1000 := by omega
  clear hx ln
  go_enter Tryz.func40, Tryz.ntmps40
  go_wp2_with fail
  refine (rshapes_any c h x A cA n ls _ (HX.out.below ((Below.refl _ w).alloc (Nat.le_refl _) _)) LX.out hn1).mono ?_
  rintro e w1 ⟨A1, k1, n1, rfl, hn1', hR, hb, hd1, hd2⟩
  rw [← HER.out]
  have B1 := Lib.hid (chain ((Below.refl w.heap.size w).alloc (Nat.le_refl _) _) hb)
  have N1 := Lib.hid ((NB.new w c h x (.slice A n cA)).below hb)
  obtain ⟨c0, c1, c2, c3⟩ := N1.out.cells
  have R1 := Lib.hid hR; have L1 := Lib.hid hn1'
  clear hb hR hd1 hd2 hn1'
  by_cases h0 : ¬ er = 0
  · have b0 : (er == 0) = false := by simpa using h0
    obtain ⟨ea, eb⟩ : 2 * ra = a ∧ 2 * rb = b := by
      have := HAB.out
      rw [show lineN ⟨c, h, x, ls⟩ s = (2 * (rangeN ⟨c, h, x, ls⟩ s).1, 2 * (rangeN ⟨c, h, x, ls⟩ s).2) from if_neg (by rw [← HER.out]; exact fun z => h0 z.1)] at this
      injection this with z1 z2
      exact ⟨by rw [HRA.out]; exact z1, by rw [HRB.out]; exact z2⟩
    have v1 : IntKind.i64.wrap (2 * ra) = a := by rw [IntWalk.i64_in _ (by omega)]; exact ea
    have v2 : wrap64 (2 * ra) = a := by rw [IntWalk.wrap64_in _ (by omega)]; exact ea
    have v3 : IntKind.i64.wrap (2 * rb) = b := by rw [IntWalk.i64_in _ (by omega)]; exact eb
    have v4 : wrap64 (2 * rb) = b := by rw [IntWalk.wrap64_in _ (by omega)]; exact eb
    clear h0 ea eb
    go_wp2_with fail
    refine (RNG.out _ (HX.out.below B1.out) LX.out).mono ?_
    rintro e w2 ⟨rfl, hb⟩
    have B2 := Lib.hid (chain B1.out hb)
    clear hb
    go_wp2_with fail
    go_ret2
    exact ⟨rfl, B2.out⟩
  have h0 : er = 0 := by omega
  have b0 : (er == 0) = true := by rw [h0]; rfl
  have HE : Hid (errN ⟨c, h, x, ls⟩ = 0) := HER.out.symm.trans h0
  clear h0
  go_wp2_with fail
  refine (rstages8 c h x A cA n ls _ (HX.out.below B1.out) LX.out hn).mono ?_
  rintro e w2 ⟨A2, k2, n2, rfl, hn2, hR2, hb, hd1, hd2⟩
  have B2 := Lib.hid (chain B1.out hb)
  have N2 := Lib.hid (N1.out.below hb)
  have R2 := Lib.hid (R1.out.below hb)
  have L2 := Lib.hid hn2
  clear hb hR2 hn2 hd1 hd2 c0 c1 c2 c3
  obtain ⟨c0, c1, c2, c3⟩ := N2.out.cells
  by_cases hs : ¬ s = (n2 : Int)
  · have b1 : (s == (n2 : Int)) = false := by simpa using hs
    obtain ⟨ea, eb⟩ : 2 * ra = a ∧ 2 * rb = b := by
      have := HAB.out
      rw [show lineN ⟨c, h, x, ls⟩ s = (2 * (rangeN ⟨c, h, x, ls⟩ s).1, 2 * (rangeN ⟨c, h, x, ls⟩ s).2) from if_neg (by rw [← L2.out]; exact fun z => hs z.2)] at this
      injection this with z1 z2
      exact ⟨by rw [HRA.out]; exact z1, by rw [HRB.out]; exact z2⟩
    have v1 : IntKind.i64.wrap (2 * ra) = a := by rw [IntWalk.i64_in _ (by omega)]; exact ea
    have v2 : wrap64 (2 * ra) = a := by rw [IntWalk.wrap64_in _ (by omega)]; exact ea
    have v3 : IntKind.i64.wrap (2 * rb) = b := by rw [IntWalk.i64_in _ (by omega)]; exact eb
    have v4 : wrap64 (2 * rb) = b := by rw [IntWalk.wrap64_in _ (by omega)]; exact eb
    clear hs ea eb
    go_wp2_with fail
    refine (RNG.out _ (HX.out.below B2.out) LX.out).mono ?_
    rintro e w3 ⟨rfl, hb⟩
    have B3 := Lib.hid (chain B2.out hb)
    clear hb
    go_wp2_with fail
    go_ret2
    exact ⟨rfl, B3.out⟩
  have hs : s = (n2 : Int) := Decidable.not_not.1 hs
  have b1 : (s == (n2 : Int)) = true := by rw [hs]; simp
  obtain ⟨T, hT⟩ : ∃ T, T = endS ⟨c, h, x⟩ ls := ⟨_, rfl⟩
  obtain ⟨Y, hY⟩ : ∃ Y, Y = totP (knN ⟨c, h, x, ls⟩) := ⟨_, rfl⟩
  obtain ⟨ea, eb⟩ : 2 * Y = a ∧ T.n = b := by
    have := HAB.out
    rw [show lineN ⟨c, h, x, ls⟩ s = (2 * totP (knN ⟨c, h, x, ls⟩), (endS ⟨c, h, x⟩ ls).n) from if_pos ⟨HE.out, by rw [← L2.out]; exact hs⟩] at this
    injection this with z1 z2
    exact ⟨by rw [hY]; exact z1, by rw [hT]; exact z2⟩
  obtain ⟨y0, y1⟩ : 0 ≤ Y ∧ Y ≤ 512 := by
    obtain ⟨r, f3, t, _, p5, _⟩ := ok_all HE.out
    have r : (⟨c, h, x⟩ : Sh).r = true := r
    rw [hY, (tots HE.out).2]
    exact ⟨(sums_nn r f3 t).2, p5⟩
  have v1 : IntKind.i64.wrap (2 * Y) = a := by rw [IntWalk.i64_in _ (by omega)]; exact ea
  have v2 : wrap64 (2 * Y) = a := by rw [IntWalk.wrap64_in _ (by omega)]; exact ea
  have hR := R2.out
  have hl1 := L1.out
  rw [shN_ok HE.out] at hR hl1
  rw [sh_len, ← LX.out] at hl1
  obtain ⟨bS, oS, rfl, lS, qS⟩ := hR (by rw [sh_len]; omega)
  have gT : (shL ⟨c, h, x⟩ ls)[n]? = some T := by
    have := sh_get ls ⟨c, h, x⟩ n (by rw [← LX.out]; exact Nat.le_refl _)
    rw [LX.out, List.take_length, ← hT] at this
    rw [LX.out]; exact this
  obtain ⟨t0, t1, t2⟩ := sh_at qS gT
  have i1 : (n : Int) < (n1 : Int) := by omega
  have i2 : n < n1 := by omega
  have i3 : (0 : Int) ≤ (n : Int) := by omega
  have v3 : IntKind.i64.wrap ((n1 : Int) - 1) = (n : Int) := by rw [IntWalk.i64_in _ (by omega)]; omega
  have v4 : wrap64 ((n1 : Int) - 1) = (n : Int) := by rw [IntWalk.wrap64_in _ (by omega)]; omega
  have PS : Hid (∀ w, Calls Tryz.prog 32 #[.agg #[.int .i64 T.c, .int .i64 T.h, .int .i64 T.x]] w fun e w' => e = .returned (.int .i64 b) ∧ Below w.heap.size w w') := fun w => by rw [← eb]; exact rsize_any _ _ _ w
  have PT : Hid (∀ w', Rl w' A ls → n = ls.length → Calls Tryz.prog 59 #[.agg #[.int .i64 c, .int .i64 h, .int .i64 x, .slice A n cA]] w' fun e w'' => e = .returned (.int .i64 Y) ∧ Below w'.heap.size w' w'') := fun w' z1 z2 => by rw [hY]; exact rtotal8 c h x A cA n ls w' z1 z2 hn
  have HC0 : Hid (Below w2.heap.size w2 w2.drew) := below_drew w2
  have lN := N2.out.lt
  have tok1 : True := trivial
  clear hs hT hY ea eb hR hl1 qS gT y0 y1 ra0 ra1 rb0 rb1
  go_wp2_with fail
  go_region_held3 (fun w' => w'.cell? ⟨w.heap.size, 0, none⟩ = some (.int .i64 c) ∧ w'.cell? ⟨w.heap.size, 1, none⟩ = some (.int .i64 h) ∧ w'.cell? ⟨w.heap.size, 2, none⟩ = some (.int .i64 x) ∧ w'.cell? ⟨w.heap.size, 3, none⟩ = some (.slice A n cA) ∧ w'.cell? ⟨bS, oS + n * 3, none⟩ = some (.int .i64 T.c) ∧ w'.cell? ⟨bS, oS + n * 3 + 1, none⟩ = some (.int .i64 T.h) ∧ w'.cell? ⟨bS, oS + n * 3 + 2, none⟩ = some (.int .i64 T.x))
    (first | exact ⟨g0, g1, g2, g3, g4, g5, g6⟩ | go_keep)
    (first
      | ((have _t := tok1; clear tok1; go_at_call 59; (with_reducible refine (PT.out _ (HX.out.below (chain B2.out HC0.out)) LX.out).mono ?_); rintro e w3 ⟨rfl, hb3⟩
          have HC1 := Lib.hid (HC0.out.trans (hb3.mono HC0.out.size))
          have g0 := (HC1.out.cell (p := ⟨w.heap.size, 0, none⟩) lN).trans c0
          have g1 := (HC1.out.cell (p := ⟨w.heap.size, 1, none⟩) lN).trans c1
          have g2 := (HC1.out.cell (p := ⟨w.heap.size, 2, none⟩) lN).trans c2
          have g3 := (HC1.out.cell (p := ⟨w.heap.size, 3, none⟩) lN).trans c3
          have g4 := (HC1.out.cell (p := ⟨bS, oS + n * 3, none⟩) lS).trans t0
          have g5 := (HC1.out.cell (p := ⟨bS, oS + n * 3 + 1, none⟩) lS).trans t1
          have g6 := (HC1.out.cell (p := ⟨bS, oS + n * 3 + 2, none⟩) lS).trans t2
          have tok2 : True := trivial
          clear hb3))
      | ((have _t := tok2; clear tok2; go_at_call 32; (with_reducible refine (PS.out _).mono ?_); rintro e w4 ⟨rfl, hb4⟩
          have HC2 := Lib.hid (HC1.out.trans (hb4.mono HC1.out.size))
          clear g0 g1 g2 g3 g4 g5 g6
          have g0 := (HC2.out.cell (p := ⟨w.heap.size, 0, none⟩) lN).trans c0
          have g1 := (HC2.out.cell (p := ⟨w.heap.size, 1, none⟩) lN).trans c1
          have g2 := (HC2.out.cell (p := ⟨w.heap.size, 2, none⟩) lN).trans c2
          have g3 := (HC2.out.cell (p := ⟨w.heap.size, 3, none⟩) lN).trans c3
          have g4 := (HC2.out.cell (p := ⟨bS, oS + n * 3, none⟩) lS).trans t0
          have g5 := (HC2.out.cell (p := ⟨bS, oS + n * 3 + 1, none⟩) lS).trans t1
          have g6 := (HC2.out.cell (p := ⟨bS, oS + n * 3 + 2, none⟩) lS).trans t2
          clear hb4))
      | fail)
  go_wp2_with fail
  go_ret2
  exact ⟨rfl, chain B2.out HC2.out⟩

end Go.Proofs.YtklgjhldebdegaaGreat
