/-
  PlainWeights: a Conv and a Dense go over sums of weights, and over a number; a Square and a Pool do not look at them.
-/
import Derived.Test.YtbcmhoomdackkaaULaw
namespace Go.Proofs.Ytbcmhoomdackkaa
open Go.RowKit

set_option maxHeartbeats 2000000 in
set_option maxRecDepth 100000 in
theorem law_pweights (c h x : Int) (A : Option Addr) (cA n : Nat) (ls : List Ly) (a : Int) (X W V : Option Addr) (cX nx cW nw cV nv : Nat) (xs ws vs : List UInt64) (k : UInt64) (w : World) (hx : Rl w A ls) (ln : n = ls.length) (ba : 0 ≤ a ∧ a ≤ 255) (hX : Rg ucells w X xs) (lX : nx = xs.length) (hW : Rg ucells w W ws) (lW : nw = ws.length) (hV : Rg ucells w V vs) (lV : nv = vs.length) :
    Calls Try.prog 8 #[.agg #[.int .i64 c, .int .i64 h, .int .i64 x, .slice A n cA], .int .u8 a, .slice X nx cX, .slice W nw cW, .slice V nv cV, .int .u64 (uz k)] w fun e w' => e = .returned (.bool true) ∧ Below w.heap.size w w' := by
  have HRL := Lib.hid hx; have LRL := Lib.hid ln
  have HX := Lib.hid hX; have LX := Lib.hid lX
  have HW := Lib.hid hW; have LW := Lib.hid lW
  have HV := Lib.hid hV; have LV := Lib.hid lV
  clear hx ln hX lX hW lW hV lV
  obtain ⟨ba0, ba1⟩ := ba
  go_enter Try.func8, Try.ntmps8
  go_wp2_with fail
  refine (head7_any _).mono ?_
  rintro e w1 ⟨rfl, hb⟩
  have B1 := Lib.hid (chain ((Below.refl w.heap.size w).alloc (Nat.le_refl _) _) hb)
  have N1 := Lib.hid ((NB.new w c h x (.slice A n cA)).below hb)
  clear hb
  obtain ⟨c0, c1, c2, c3⟩ := N1.out.cells
  obtain ⟨kk, hkk⟩ : ∃ kk : Nat, a % 8 = kk := ⟨(a % 8).toNat, by omega⟩
  have kk8 : kk < 8 := by omega
  by_cases hg : 60 < n ∨ 3000 < nx ∨ 3000 < nw ∨ 3000 < nv
  · have hgr : (anyB [⟨X, nx, cX⟩, ⟨W, nw, cW⟩, ⟨V, nv, cV⟩] || decide (60 < (n : Int))) = true := by unfold anyB; simp; omega
    go_wp2_with fail
    refine (great7_any c h x A cA n _ 3 _ [⟨X, nx, cX⟩, ⟨W, nw, cW⟩, ⟨V, nv, cV⟩] _ true hgr (rg_block (heap_alloc_new _ _) rfl) rfl (by decide)).mono ?_
    rintro e w2 ⟨rfl, hb⟩
    have hb := ((Below.refl w1.heap.size w1).alloc (Nat.le_refl _) _).trans (hb.mono (by simp))
    have B2 := Lib.hid (chain B1.out hb)
    have N2 := Lib.hid (N1.out.below hb)
    clear hb c0 c1 c2 c3 B1 N1
    obtain ⟨c0, c1, c2, c3⟩ := N2.out.cells
    clear hg hgr
    go_wp2_with fail
    go_ret
    exact ⟨rfl, B2.out⟩
  have hgr : (anyB [⟨X, nx, cX⟩, ⟨W, nw, cW⟩, ⟨V, nv, cV⟩] || decide (60 < (n : Int))) = false := by unfold anyB; simp; omega
  have hn60 : n ≤ 60 := by omega
  have hn1 : n ≤ 1000 := by omega
  have bX : nx ≤ 3000 := by omega
  have bW : nw ≤ 3000 := by omega
  have bV : nv ≤ 3000 := by omega
  go_wp2_with fail
  refine (great7_any c h x A cA n _ 3 _ [⟨X, nx, cX⟩, ⟨W, nw, cW⟩, ⟨V, nv, cV⟩] _ false hgr (rg_block (heap_alloc_new _ _) rfl) rfl (by decide)).mono ?_
  rintro e w2 ⟨rfl, hb⟩
  have hb := ((Below.refl w1.heap.size w1).alloc (Nat.le_refl _) _).trans (hb.mono (by simp))
  have B2 := Lib.hid (chain B1.out hb)
  have N2 := Lib.hid (N1.out.below hb)
  clear hb c0 c1 c2 c3 B1 N1
  obtain ⟨c0, c1, c2, c3⟩ := N2.out.cells
  clear hg hgr
  by_cases hxy : ¬ nw = nv
  · have d : ((nw : Int) != (nv : Int)) = true := by simp; omega
    clear hxy
    go_wp2_with fail
    go_ret
    exact ⟨rfl, B2.out⟩
  have dhxy : ((nw : Int) != (nv : Int)) = false := by simp; omega
  have hxy : nw = nv := by omega
  subst hxy
  by_cases hkn : n ≤ kk
  · have d : decide ((n : Int) ≤ (kk : Int)) = true := by simp; omega
    have d2 : decide (n ≤ kk) = true := by simp; omega
    clear hkn
    go_wp2_with fail
    go_ret
    exact ⟨rfl, B2.out⟩
  have dhkn : decide ((n : Int) ≤ (kk : Int)) = false := by simp; omega
  have ehkn : decide (n ≤ kk) = false := by simp; omega
  have kn : kk < n := by omega
  have kl : kk < ls.length := by rw [← LRL.out]; exact kn
  have ki : (kk : Int) < (n : Int) := by omega
  have hl := get_ly kl
  obtain ⟨l, hle⟩ : ∃ l, l = ls.getD kk Ly.z := ⟨_, rfl⟩
  rw [← hle] at hl
  obtain ⟨b1, o1, rfl, l1, q⟩ := HRL.out (by omega)
  have q := q kk kl
  rw [← hle] at q
  have LK := Lib.hid q; have HL := Lib.hid hl
  clear q hl hle
  have hlen : ws.length = vs.length := by rw [← LW.out, ← LV.out]
  have HLEN := Lib.hid hlen
  obtain ⟨r, hr⟩ : ∃ r, okL ⟨c, h, x, ls⟩ (kk : Int) xs ws = r := ⟨_, rfl⟩
  have HR := Lib.hid hr
  have rr : (r != r) = false := by cases r <;> rfl
  obtain ⟨ua, hua⟩ : ∃ u, layN ⟨c, h, x, ls⟩ (kk : Int) xs ws = u := ⟨_, rfl⟩
  obtain ⟨ub, hub⟩ : ∃ u, layN ⟨c, h, x, ls⟩ (kk : Int) xs vs = u := ⟨_, rfl⟩
  obtain ⟨uc, huc⟩ : ∃ u, layN ⟨c, h, x, ls⟩ (kk : Int) xs (addU ws vs) = u := ⟨_, rfl⟩
  obtain ⟨ud, hud⟩ : ∃ u, layN ⟨c, h, x, ls⟩ (kk : Int) xs (scaleU k ws) = u := ⟨_, rfl⟩
  have HUA := Lib.hid hua; have HUB := Lib.hid hub; have HUC := Lib.hid huc; have HUD := Lib.hid hud
  have HR2 : Hid (okL ⟨c, h, x, ls⟩ (kk : Int) xs vs = r) := (okL_len rfl hlen.symm).trans hr
  have HR3 : Hid (okL ⟨c, h, x, ls⟩ (kk : Int) xs (addU ws vs) = r) := (okL_len rfl (addU_len hlen)).trans hr
  have HR4 : Hid (okL ⟨c, h, x, ls⟩ (kk : Int) xs (scaleU k ws) = r) := (okL_len rfl (scaleU_len k ws)).trans hr
  have HAB : Hid (ua.length = ub.length) := by rw [hua.symm, hub.symm]; exact layN_same_len rfl hlen
  have HA8 : Hid (ua.length ≤ 128) := by rw [hua.symm]; exact layN_len _ _ _ _
  have HC8 : Hid (uc.length ≤ 128) := by rw [huc.symm]; exact layN_len _ _ _ _
  have HD8 : Hid (ud.length ≤ 128) := by rw [hud.symm]; exact layN_len _ _ _ _
  have ALL : Hid ((l.k = 2 ∨ l.k = 3) → ua = ub ∧ uc = ua ∧ ud = ua) := fun k23 => by
    rw [hua.symm, hub.symm, huc.symm, hud.symm]
    exact ⟨layN_noW HL.out k23 xs hlen, layN_noW HL.out k23 xs (addU_len hlen), layN_noW HL.out k23 xs (scaleU_len k ws)⟩
  have SUM : Hid (l.k ≠ 2 → l.k ≠ 3 → uc = addU ua ub ∧ ud = scaleU k ua) := fun k2 k3 => by
    rw [hua.symm, hub.symm, huc.symm, hud.symm]
    exact ⟨layN_wadd HL.out k2 k3 hlen, layN_wscale HL.out k2 k3 k xs ws⟩
  clear hr hua hub huc hud hlen
  go_wp2_with fail
  refine (layer_any c h x _ X W cA n cX nx cW nw ls xs ws ua (kk : Int) r _ (HRL.out.below B2.out) LRL.out hn1 (HX.out.below B2.out) LX.out (HW.out.below B2.out) LW.out HUA.out HR.out).mono ?_
  rintro e w3 ⟨Aa, ka, na, rfl, h1, h2, hb, h4, h5⟩
  have Ma := Lib.hid h1; have Qa := Lib.hid h2
  clear h1 h2 h4 h5 dhkn ehkn dhxy
  have B3 := Lib.hid (chain B2.out hb)
  have N3 := Lib.hid (N2.out.below hb)
  clear hb c0 c1 c2 c3 B2 N2
  obtain ⟨c0, c1, c2, c3⟩ := N3.out.cells
  go_wp2_with fail
  refine (layer_any c h x _ X V cA n cX nx cV nw ls xs vs ub (kk : Int) r _ (HRL.out.below B3.out) LRL.out hn1 (HX.out.below B3.out) LX.out (HV.out.below B3.out) LV.out HUB.out HR2.out).mono ?_
  rintro e w4 ⟨Ab, kb, nb, rfl, h1, h2, hb, h4, h5⟩
  have Mb := Lib.hid h1; have Qb := Lib.hid h2
  clear h1 h2 h4 h5 
  have B4 := Lib.hid (chain B3.out hb)
  have N4 := Lib.hid (N3.out.below hb)
  have Qa := Lib.hid (Qa.out.below hb)
  clear hb c0 c1 c2 c3 B3 N3
  obtain ⟨c0, c1, c2, c3⟩ := N4.out.cells
  go_wp2_with fail
  have HC0 : Hid (Below w4.heap.size w4 w4.drew) := below_drew w4
  have lN := N4.out.lt
  have tok1 : True := trivial
  go_region_held3 (fun w' => w'.cell? ⟨w.heap.size, 0, none⟩ = some (.int .i64 c) ∧ w'.cell? ⟨w.heap.size, 1, none⟩ = some (.int .i64 h) ∧ w'.cell? ⟨w.heap.size, 2, none⟩ = some (.int .i64 x) ∧ w'.cell? ⟨w.heap.size, 3, none⟩ = some (.slice (some ⟨b1, o1, none⟩) n cA))
    (first | exact ⟨q0, q1, q2, q3⟩ | go_keep)
    (first
      | ((have _t := tok1; clear tok1; go_at_call 31; (with_reducible refine (uadd W V cW cV nw ws vs _ (HW.out.below (chain B4.out HC0.out)) (HV.out.below (chain B4.out HC0.out)) LW.out LV.out (by omega)).mono ?_); rintro e w5 ⟨As, ks, ns, rfl, h1, h2, hb2, h4, h5⟩
          have Ms := Lib.hid h1; have Qs := Lib.hid h2
          have HC1 := Lib.hid (HC0.out.trans (hb2.mono HC0.out.size))
          have BC1 := Lib.hid (chain B4.out HC1.out)
          have q0 := (HC1.out.cell (p := ⟨w.heap.size, 0, none⟩) lN).trans c0
          have q1 := (HC1.out.cell (p := ⟨w.heap.size, 1, none⟩) lN).trans c1
          have q2 := (HC1.out.cell (p := ⟨w.heap.size, 2, none⟩) lN).trans c2
          have q3 := (HC1.out.cell (p := ⟨w.heap.size, 3, none⟩) lN).trans c3
          have tok2 : True := trivial
          clear hb2 h1 h2 h4 h5))
      | ((have _t := tok2; clear tok2; go_at_call 26; (with_reducible refine (layer_any c h x _ X As cA n cX nx ks ns ls xs (addU ws vs) uc (kk : Int) r _ (HRL.out.below BC1.out) LRL.out hn1 (HX.out.below BC1.out) LX.out Qs.out Ms.out HUC.out HR3.out).mono ?_); rintro e w6 ⟨Ac, kc, nc, rfl, h1, h2, hb3, h4, h5⟩
          have Mc := Lib.hid h1; have Qc := Lib.hid h2
          have HC2 := Lib.hid (HC1.out.trans (hb3.mono HC1.out.size))
          clear q0 q1 q2 q3
          have q0 := (HC2.out.cell (p := ⟨w.heap.size, 0, none⟩) lN).trans c0
          have q1 := (HC2.out.cell (p := ⟨w.heap.size, 1, none⟩) lN).trans c1
          have q2 := (HC2.out.cell (p := ⟨w.heap.size, 2, none⟩) lN).trans c2
          have q3 := (HC2.out.cell (p := ⟨w.heap.size, 3, none⟩) lN).trans c3
          clear hb3 h1 h2 h4 h5))
      | fail)
  have hb : Below w4.heap.size w4 w6 := HC2.out
  clear q0 q1 q2 q3 HC0 HC1 HC2 BC1 lN 
  have B6 := Lib.hid (chain B4.out hb)
  have N6 := Lib.hid (N4.out.below hb)
  have Qa := Lib.hid (Qa.out.below hb)
  have Qb := Lib.hid (Qb.out.below hb)
  clear hb c0 c1 c2 c3 B4 N4
  obtain ⟨c0, c1, c2, c3⟩ := N6.out.cells
  go_wp2_with fail
  have HC0 : Hid (Below w6.heap.size w6 w6.drew) := below_drew w6
  have lN := N6.out.lt
  have tok1 : True := trivial
  go_region_held3 (fun w' => w'.cell? ⟨w.heap.size, 0, none⟩ = some (.int .i64 c) ∧ w'.cell? ⟨w.heap.size, 1, none⟩ = some (.int .i64 h) ∧ w'.cell? ⟨w.heap.size, 2, none⟩ = some (.int .i64 x) ∧ w'.cell? ⟨w.heap.size, 3, none⟩ = some (.slice (some ⟨b1, o1, none⟩) n cA))
    (first | exact ⟨q0, q1, q2, q3⟩ | go_keep)
    (first
      | ((have _t := tok1; clear tok1; go_at_call 32; (with_reducible refine (uscale k W cW nw ws _ (HW.out.below (chain B6.out HC0.out)) LW.out (by omega)).mono ?_); rintro e w7 ⟨At, kt, nt, rfl, h1, h2, hb2, h4, h5⟩
          have Mt := Lib.hid h1; have Qt := Lib.hid h2
          have HC1 := Lib.hid (HC0.out.trans (hb2.mono HC0.out.size))
          have BC1 := Lib.hid (chain B6.out HC1.out)
          have q0 := (HC1.out.cell (p := ⟨w.heap.size, 0, none⟩) lN).trans c0
          have q1 := (HC1.out.cell (p := ⟨w.heap.size, 1, none⟩) lN).trans c1
          have q2 := (HC1.out.cell (p := ⟨w.heap.size, 2, none⟩) lN).trans c2
          have q3 := (HC1.out.cell (p := ⟨w.heap.size, 3, none⟩) lN).trans c3
          have tok2 : True := trivial
          clear hb2 h1 h2 h4 h5))
      | ((have _t := tok2; clear tok2; go_at_call 26; (with_reducible refine (layer_any c h x _ X At cA n cX nx kt nt ls xs (scaleU k ws) ud (kk : Int) r _ (HRL.out.below BC1.out) LRL.out hn1 (HX.out.below BC1.out) LX.out Qt.out Mt.out HUD.out HR4.out).mono ?_); rintro e w8 ⟨Ad, kd, nd, rfl, h1, h2, hb3, h4, h5⟩
          have Md := Lib.hid h1; have Qd := Lib.hid h2
          have HC2 := Lib.hid (HC1.out.trans (hb3.mono HC1.out.size))
          clear q0 q1 q2 q3
          have q0 := (HC2.out.cell (p := ⟨w.heap.size, 0, none⟩) lN).trans c0
          have q1 := (HC2.out.cell (p := ⟨w.heap.size, 1, none⟩) lN).trans c1
          have q2 := (HC2.out.cell (p := ⟨w.heap.size, 2, none⟩) lN).trans c2
          have q3 := (HC2.out.cell (p := ⟨w.heap.size, 3, none⟩) lN).trans c3
          clear hb3 h1 h2 h4 h5))
      | fail)
  have hb : Below w6.heap.size w6 w8 := HC2.out
  clear q0 q1 q2 q3 HC0 HC1 HC2 BC1 lN 
  have B8 := Lib.hid (chain B6.out hb)
  have N8 := Lib.hid (N6.out.below hb)
  have Qa := Lib.hid (Qa.out.below hb)
  have Qb := Lib.hid (Qb.out.below hb)
  have Qc := Lib.hid (Qc.out.below hb)
  clear hb c0 c1 c2 c3 B6 N6
  obtain ⟨c0, c1, c2, c3⟩ := N8.out.cells
  obtain ⟨z0, z1, z2, z3⟩ := LK.out.below B8.out l1
  have hab : na = nb := by rw [Ma.out, Mb.out]; exact HAB.out
  subst hab
  by_cases k23 : l.k = 2 ∨ l.k = 3
  · have K23 := Lib.hid k23
    by_cases k2 : l.k = 2
    · have d2 : (l.k == 2) = true := by simpa using k2
      clear k2
      go_wp2_with fail
      refine (usame Aa Ab ka kb na na _ _ _ Qa.out Qb.out Ma.out Mb.out (by rw [Ma.out]; have := HA8.out; omega) ((ALL.out k23).1)).mono ?_
      rintro e w9 ⟨rfl, hb⟩
      have B9 := Lib.hid (chain B8.out hb)
      have N9 := Lib.hid (N8.out.below hb)
      have Qa := Lib.hid (Qa.out.below hb)
      have Qb := Lib.hid (Qb.out.below hb)
      have Qc := Lib.hid (Qc.out.below hb)
      have Qd := Lib.hid (Qd.out.below hb)
      clear hb c0 c1 c2 c3 B8 N8
      obtain ⟨c0, c1, c2, c3⟩ := N9.out.cells
      go_wp2_with fail
      refine (usame Ac Aa kc ka nc na _ _ _ Qc.out Qa.out Mc.out Ma.out (by rw [Mc.out]; have := HC8.out; omega) ((ALL.out k23).2.1)).mono ?_
      rintro e w10 ⟨rfl, hb⟩
      have B10 := Lib.hid (chain B9.out hb)
      have N10 := Lib.hid (N9.out.below hb)
      have Qa := Lib.hid (Qa.out.below hb)
      have Qb := Lib.hid (Qb.out.below hb)
      have Qc := Lib.hid (Qc.out.below hb)
      have Qd := Lib.hid (Qd.out.below hb)
      clear hb c0 c1 c2 c3 B9 N9
      obtain ⟨c0, c1, c2, c3⟩ := N10.out.cells
      go_wp2_with fail
      refine (usame Ad Aa kd ka nd na _ _ _ Qd.out Qa.out Md.out Ma.out (by rw [Md.out]; have := HD8.out; omega) ((ALL.out k23).2.2)).mono ?_
      rintro e w11 ⟨rfl, hb⟩
      have B11 := Lib.hid (chain B10.out hb)
      have N11 := Lib.hid (N10.out.below hb)
      have Qa := Lib.hid (Qa.out.below hb)
      have Qb := Lib.hid (Qb.out.below hb)
      have Qc := Lib.hid (Qc.out.below hb)
      have Qd := Lib.hid (Qd.out.below hb)
      clear hb c0 c1 c2 c3 B10 N10
      obtain ⟨c0, c1, c2, c3⟩ := N11.out.cells
      go_wp2_with fail
      go_ret
      exact ⟨rfl, B11.out⟩
    have d2 : (l.k == 2) = false := by simpa using k2
    have d3 : (l.k == 3) = true := by have : l.k = 3 := by omega
                                      rw [this]; rfl
    clear k2
    go_wp2_with fail
    refine (usame Aa Ab ka kb na na _ _ _ Qa.out Qb.out Ma.out Mb.out (by rw [Ma.out]; have := HA8.out; omega) ((ALL.out k23).1)).mono ?_
    rintro e w9 ⟨rfl, hb⟩
    have B9 := Lib.hid (chain B8.out hb)
    have N9 := Lib.hid (N8.out.below hb)
    have Qa := Lib.hid (Qa.out.below hb)
    have Qb := Lib.hid (Qb.out.below hb)
    have Qc := Lib.hid (Qc.out.below hb)
    have Qd := Lib.hid (Qd.out.below hb)
    clear hb c0 c1 c2 c3 B8 N8
    obtain ⟨c0, c1, c2, c3⟩ := N9.out.cells
    go_wp2_with fail
    refine (usame Ac Aa kc ka nc na _ _ _ Qc.out Qa.out Mc.out Ma.out (by rw [Mc.out]; have := HC8.out; omega) ((ALL.out k23).2.1)).mono ?_
    rintro e w10 ⟨rfl, hb⟩
    have B10 := Lib.hid (chain B9.out hb)
    have N10 := Lib.hid (N9.out.below hb)
    have Qa := Lib.hid (Qa.out.below hb)
    have Qb := Lib.hid (Qb.out.below hb)
    have Qc := Lib.hid (Qc.out.below hb)
    have Qd := Lib.hid (Qd.out.below hb)
    clear hb c0 c1 c2 c3 B9 N9
    obtain ⟨c0, c1, c2, c3⟩ := N10.out.cells
    go_wp2_with fail
    refine (usame Ad Aa kd ka nd na _ _ _ Qd.out Qa.out Md.out Ma.out (by rw [Md.out]; have := HD8.out; omega) ((ALL.out k23).2.2)).mono ?_
    rintro e w11 ⟨rfl, hb⟩
    have B11 := Lib.hid (chain B10.out hb)
    have N11 := Lib.hid (N10.out.below hb)
    have Qa := Lib.hid (Qa.out.below hb)
    have Qb := Lib.hid (Qb.out.below hb)
    have Qc := Lib.hid (Qc.out.below hb)
    have Qd := Lib.hid (Qd.out.below hb)
    clear hb c0 c1 c2 c3 B10 N10
    obtain ⟨c0, c1, c2, c3⟩ := N11.out.cells
    go_wp2_with fail
    go_ret
    exact ⟨rfl, B11.out⟩
  have d2 : (l.k == 2) = false := by simp; omega
  have d3 : (l.k == 3) = false := by simp; omega
  have S1 := Lib.hid (SUM.out (by omega) (by omega)).1
  have S2 := Lib.hid (SUM.out (by omega) (by omega)).2
  clear k23
  go_wp2_with fail
  refine (uadd Aa Ab ka kb na ua ub _ Qa.out Qb.out Ma.out (by rw [Ma.out]; exact HAB.out) (by rw [Ma.out]; have := HA8.out; omega)).mono ?_
  rintro e w9 ⟨Ae, ke, ne, rfl, h1, h2, hb, h4, h5⟩
  have Me := Lib.hid h1; have Qe := Lib.hid h2
  clear h1 h2 h4 h5 z0 z1 z2 z3 d2 d3
  have B9 := Lib.hid (chain B8.out hb)
  have N9 := Lib.hid (N8.out.below hb)
  have Qa := Lib.hid (Qa.out.below hb)
  have Qb := Lib.hid (Qb.out.below hb)
  have Qc := Lib.hid (Qc.out.below hb)
  have Qd := Lib.hid (Qd.out.below hb)
  clear hb c0 c1 c2 c3 B8 N8
  obtain ⟨c0, c1, c2, c3⟩ := N9.out.cells
  go_wp2_with fail
  refine (usame Ac Ae kc ke nc ne _ _ _ Qc.out Qe.out Mc.out Me.out (by rw [Mc.out]; have := HC8.out; omega) (S1.out)).mono ?_
  rintro e w10 ⟨rfl, hb⟩
  have B10 := Lib.hid (chain B9.out hb)
  have N10 := Lib.hid (N9.out.below hb)
  have Qa := Lib.hid (Qa.out.below hb)
  have Qb := Lib.hid (Qb.out.below hb)
  have Qc := Lib.hid (Qc.out.below hb)
  have Qd := Lib.hid (Qd.out.below hb)
  have Qe := Lib.hid (Qe.out.below hb)
  clear hb c0 c1 c2 c3 B9 N9
  obtain ⟨c0, c1, c2, c3⟩ := N10.out.cells
  go_wp2_with fail
  refine (uscale k Aa ka na ua _ Qa.out Ma.out (by rw [Ma.out]; have := HA8.out; omega)).mono ?_
  rintro e w11 ⟨Af, kf, nf, rfl, h1, h2, hb, h4, h5⟩
  have Mf := Lib.hid h1; have Qf := Lib.hid h2
  clear h1 h2 h4 h5 
  have B11 := Lib.hid (chain B10.out hb)
  have N11 := Lib.hid (N10.out.below hb)
  have Qa := Lib.hid (Qa.out.below hb)
  have Qb := Lib.hid (Qb.out.below hb)
  have Qc := Lib.hid (Qc.out.below hb)
  have Qd := Lib.hid (Qd.out.below hb)
  have Qe := Lib.hid (Qe.out.below hb)
  clear hb c0 c1 c2 c3 B10 N10
  obtain ⟨c0, c1, c2, c3⟩ := N11.out.cells
  go_wp2_with fail
  refine (usame Ad Af kd kf nd nf _ _ _ Qd.out Qf.out Md.out Mf.out (by rw [Md.out]; have := HD8.out; omega) (S2.out)).mono ?_
  rintro e w12 ⟨rfl, hb⟩
  have B12 := Lib.hid (chain B11.out hb)
  have N12 := Lib.hid (N11.out.below hb)
  have Qa := Lib.hid (Qa.out.below hb)
  have Qb := Lib.hid (Qb.out.below hb)
  have Qc := Lib.hid (Qc.out.below hb)
  have Qd := Lib.hid (Qd.out.below hb)
  have Qe := Lib.hid (Qe.out.below hb)
  have Qf := Lib.hid (Qf.out.below hb)
  clear hb c0 c1 c2 c3 B11 N11
  obtain ⟨c0, c1, c2, c3⟩ := N12.out.cells
  go_wp2_with fail
  go_ret
  exact ⟨rfl, B12.out⟩

end Go.Proofs.Ytbcmhoomdackkaa
