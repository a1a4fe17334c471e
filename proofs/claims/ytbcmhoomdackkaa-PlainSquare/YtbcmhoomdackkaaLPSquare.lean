/-
  PlainSquare: a Square is number by number; of a picture times a number it is that many times that number as much; of a picture turned around it is the same.
-/
import Derived.Test.YtbcmhoomdackkaaULaw
namespace Go.Proofs.Ytbcmhoomdackkaa
open Go.RowKit

set_option maxHeartbeats 2000000 in
set_option maxRecDepth 100000 in
theorem law_psquare (c h x : Int) (A : Option Addr) (cA n : Nat) (ls : List Ly) (a : Int) (X W : Option Addr) (cX nx cW nw : Nat) (xs ws : List UInt64) (k : UInt64) (w : World) (hx : Rl w A ls) (ln : n = ls.length) (ba : 0 ≤ a ∧ a ≤ 255) (hX : Rg ucells w X xs) (lX : nx = xs.length) (hW : Rg ucells w W ws) (lW : nw = ws.length) :
    Calls Try.prog 9 #[.agg #[.int .i64 c, .int .i64 h, .int .i64 x, .slice A n cA], .int .u8 a, .slice X nx cX, .slice W nw cW, .int .u64 (uz k)] w fun e w' => e = .returned (.bool true) ∧ Below w.heap.size w w' := by
  have HRL := Lib.hid hx; have LRL := Lib.hid ln
  have HX := Lib.hid hX; have LX := Lib.hid lX
  have HW := Lib.hid hW; have LW := Lib.hid lW
  clear hx ln hX lX hW lW
  obtain ⟨ba0, ba1⟩ := ba
  go_enter Try.func9, Try.ntmps9
  go_wp2_with fail
  refine (head7_any _).mono ?_
  rintro e w1 ⟨rfl, hb⟩
  have B1 := Lib.hid (chain ((Below.refl w.heap.size w).alloc (Nat.le_refl _) _) hb)
  have N1 := Lib.hid ((NB.new w c h x (.slice A n cA)).below hb)
  clear hb
  obtain ⟨c0, c1, c2, c3⟩ := N1.out.cells
  obtain ⟨kk, hkk⟩ : ∃ kk : Nat, a % 8 = kk := ⟨(a % 8).toNat, by omega⟩
  have kk8 : kk < 8 := by omega
  by_cases hg : 60 < n ∨ 3000 < nx ∨ 3000 < nw
  · have hgr : (anyB [⟨X, nx, cX⟩, ⟨W, nw, cW⟩] || decide (60 < (n : Int))) = true := by unfold anyB; simp; omega
    go_wp2_with fail
    refine (great7_any c h x A cA n _ 2 _ [⟨X, nx, cX⟩, ⟨W, nw, cW⟩] _ true hgr (rg_block (heap_alloc_new _ _) rfl) rfl (by decide)).mono ?_
    rintro e w2 ⟨rfl, hb⟩
    have hb := ((Below.refl w1.heap.size w1).alloc (Nat.le_refl _) _).trans (hb.mono (by simp))
    have B2 := Lib.hid (chain B1.out hb)
    have N2 := Lib.hid (N1.out.below hb)
    clear hb c0 c1 c2 c3 B1 N1
    obtain ⟨c0, c1, c2, c3⟩ := N2.out.cells
    clear hg hgr
    go_wp2_with fail
    go_ret
    exact ⟨rfl, B2.out⟩
  have hgr : (anyB [⟨X, nx, cX⟩, ⟨W, nw, cW⟩] || decide (60 < (n : Int))) = false := by unfold anyB; simp; omega
  have hn60 : n ≤ 60 := by omega
  have hn1 : n ≤ 1000 := by omega
  have bX : nx ≤ 3000 := by omega
  have bW : nw ≤ 3000 := by omega
  go_wp2_with fail
  refine (great7_any c h x A cA n _ 2 _ [⟨X, nx, cX⟩, ⟨W, nw, cW⟩] _ false hgr (rg_block (heap_alloc_new _ _) rfl) rfl (by decide)).mono ?_
  rintro e w2 ⟨rfl, hb⟩
  have hb := ((Below.refl w1.heap.size w1).alloc (Nat.le_refl _) _).trans (hb.mono (by simp))
  have B2 := Lib.hid (chain B1.out hb)
  have N2 := Lib.hid (N1.out.below hb)
  clear hb c0 c1 c2 c3 B1 N1
  obtain ⟨c0, c1, c2, c3⟩ := N2.out.cells
  clear hg hgr
  by_cases hkn : n ≤ kk
  · have d : decide ((n : Int) ≤ (kk : Int)) = true := by simp; omega
    have d2 : decide (n ≤ kk) = true := by simp; omega
    clear hkn
    go_wp2_with fail
    go_ret
    exact ⟨rfl, B2.out⟩
  have dhkn : decide ((n : Int) ≤ (kk : Int)) = false := by simp; omega
  have ehkn : decide (n ≤ kk) = false := by simp; omega
  have kn : kk < n := by omega
  have kl : kk < ls.length := by rw [← LRL.out]; exact kn
  have ki : (kk : Int) < (n : Int) := by omega
  have hl := get_ly kl
  obtain ⟨l, hle⟩ : ∃ l, l = ls.getD kk Ly.z := ⟨_, rfl⟩
  rw [← hle] at hl
  obtain ⟨b1, o1, rfl, l1, q⟩ := HRL.out (by omega)
  have q := q kk kl
  rw [← hle] at q
  have LK := Lib.hid q; have HL := Lib.hid hl
  clear q hl hle
  obtain ⟨z0, z1, z2, z3⟩ := LK.out.below B2.out l1
  by_cases hk2 : ¬ l.k = 2
  · have d : (l.k != 2) = true := by simpa using hk2
    clear hk2
    go_wp2_with fail
    go_ret
    exact ⟨rfl, B2.out⟩
  have dhk2 : (l.k != 2) = false := by rw [show l.k = 2 by omega]; rfl
  have hk2 : l.k = 2 := by omega
  obtain ⟨r, hr⟩ : ∃ r, okL ⟨c, h, x, ls⟩ (kk : Int) xs ws = r := ⟨_, rfl⟩
  have HR := Lib.hid hr
  have rr : (r != r) = false := by cases r <;> rfl
  obtain ⟨ua, hua⟩ : ∃ u, layN ⟨c, h, x, ls⟩ (kk : Int) xs ws = u := ⟨_, rfl⟩
  obtain ⟨ub, hub⟩ : ∃ u, layN ⟨c, h, x, ls⟩ (kk : Int) (scaleU k xs) ws = u := ⟨_, rfl⟩
  obtain ⟨uc, huc⟩ : ∃ u, layN ⟨c, h, x, ls⟩ (kk : Int) (scaleU 18446744073709551615 xs) ws = u := ⟨_, rfl⟩
  have HUA := Lib.hid hua; have HUB := Lib.hid hub; have HUC := Lib.hid huc
  have HR2 : Hid (okL ⟨c, h, x, ls⟩ (kk : Int) (scaleU k xs) ws = r) := (okL_len (scaleU_len k xs) rfl).trans hr
  have HR3 : Hid (okL ⟨c, h, x, ls⟩ (kk : Int) (scaleU 18446744073709551615 xs) ws = r) := (okL_len (scaleU_len _ xs) rfl).trans hr
  have HA8 : Hid (ua.length ≤ 128) := by rw [hua.symm]; exact layN_len _ _ _ _
  have HB8 : Hid (ub.length ≤ 128) := by rw [hub.symm]; exact layN_len _ _ _ _
  have HC8 : Hid (uc.length ≤ 128) := by rw [huc.symm]; exact layN_len _ _ _ _
  have NON : Hid (r = false → ua = []) := fun e => by rw [hua.symm]; exact lay_no (hr.trans e)
  have SQ : Hid (r = true → ua = mulU xs xs ∧ ub = scaleU (k * k) ua ∧ uc = ua) := fun e => by
    have s1 := layN_square HL.out hk2 (hr.trans e)
    have s2 := layN_square HL.out hk2 (HR2.out.trans e)
    have s3 := layN_square HL.out hk2 (HR3.out.trans e)
    rw [hua.symm, hub.symm, huc.symm, s1, s2, s3]
    exact ⟨rfl, mul_scale k xs, mul_neg xs⟩
  have KK := Lib.hid (uz_mul k k)
  clear hr hua hub huc hk2
  go_wp2_with fail
  refine (layer_any c h x _ X W cA n cX nx cW nw ls xs ws ua (kk : Int) r _ (HRL.out.below B2.out) LRL.out hn1 (HX.out.below B2.out) LX.out (HW.out.below B2.out) LW.out HUA.out HR.out).mono ?_
  rintro e w3 ⟨Aa, ka, na, rfl, h1, h2, hb, h4, h5⟩
  have Ma := Lib.hid h1; have Qa := Lib.hid h2
  clear h1 h2 h4 h5 dhkn ehkn dhk2 z0 z1 z2 z3
  have B3 := Lib.hid (chain B2.out hb)
  have N3 := Lib.hid (N2.out.below hb)
  clear hb c0 c1 c2 c3 B2 N2
  obtain ⟨c0, c1, c2, c3⟩ := N3.out.cells
  go_wp2_with fail
  have HC0 : Hid (Below w3.heap.size w3 w3.drew) := below_drew w3
  have lN := N3.out.lt
  have tok1 : True := trivial
  go_region_held3 (fun w' => w'.cell? ⟨w.heap.size, 0, none⟩ = some (.int .i64 c) ∧ w'.cell? ⟨w.heap.size, 1, none⟩ = some (.int .i64 h) ∧ w'.cell? ⟨w.heap.size, 2, none⟩ = some (.int .i64 x) ∧ w'.cell? ⟨w.heap.size, 3, none⟩ = some (.slice (some ⟨b1, o1, none⟩) n cA))
    (first | exact ⟨q0, q1, q2, q3⟩ | go_keep)
    (first
      | ((have _t := tok1; clear tok1; go_at_call 32; (with_reducible refine (uscale k X cX nx xs _ (HX.out.below (chain B3.out HC0.out)) LX.out (by omega)).mono ?_); rintro e w4 ⟨At, kt, nt, rfl, h1, h2, hb2, h4, h5⟩
          have Mt := Lib.hid h1; have Qt := Lib.hid h2
          have HC1 := Lib.hid (HC0.out.trans (hb2.mono HC0.out.size))
          have BC1 := Lib.hid (chain B3.out HC1.out)
          have q0 := (HC1.out.cell (p := ⟨w.heap.size, 0, none⟩) lN).trans c0
          have q1 := (HC1.out.cell (p := ⟨w.heap.size, 1, none⟩) lN).trans c1
          have q2 := (HC1.out.cell (p := ⟨w.heap.size, 2, none⟩) lN).trans c2
          have q3 := (HC1.out.cell (p := ⟨w.heap.size, 3, none⟩) lN).trans c3
          have tok2 : True := trivial
          clear hb2 h1 h2 h4 h5))
      | ((have _t := tok2; clear tok2; go_at_call 26; (with_reducible refine (layer_any c h x _ At W cA n kt nt cW nw ls (scaleU k xs) ws ub (kk : Int) r _ (HRL.out.below BC1.out) LRL.out hn1 Qt.out Mt.out (HW.out.below BC1.out) LW.out HUB.out HR2.out).mono ?_); rintro e w5 ⟨Ab, kb, nb, rfl, h1, h2, hb3, h4, h5⟩
          have Mb := Lib.hid h1; have Qb := Lib.hid h2
          have HC2 := Lib.hid (HC1.out.trans (hb3.mono HC1.out.size))
          clear q0 q1 q2 q3
          have q0 := (HC2.out.cell (p := ⟨w.heap.size, 0, none⟩) lN).trans c0
          have q1 := (HC2.out.cell (p := ⟨w.heap.size, 1, none⟩) lN).trans c1
          have q2 := (HC2.out.cell (p := ⟨w.heap.size, 2, none⟩) lN).trans c2
          have q3 := (HC2.out.cell (p := ⟨w.heap.size, 3, none⟩) lN).trans c3
          clear hb3 h1 h2 h4 h5))
      | fail)
  have hb : Below w3.heap.size w3 w5 := HC2.out
  clear q0 q1 q2 q3 HC0 HC1 HC2 BC1 lN 
  have B5 := Lib.hid (chain B3.out hb)
  have N5 := Lib.hid (N3.out.below hb)
  have Qa := Lib.hid (Qa.out.below hb)
  clear hb c0 c1 c2 c3 B3 N3
  obtain ⟨c0, c1, c2, c3⟩ := N5.out.cells
  go_wp2_with fail
  have HC0 : Hid (Below w5.heap.size w5 w5.drew) := below_drew w5
  have lN := N5.out.lt
  have tok1 : True := trivial
  go_region_held3 (fun w' => w'.cell? ⟨w.heap.size, 0, none⟩ = some (.int .i64 c) ∧ w'.cell? ⟨w.heap.size, 1, none⟩ = some (.int .i64 h) ∧ w'.cell? ⟨w.heap.size, 2, none⟩ = some (.int .i64 x) ∧ w'.cell? ⟨w.heap.size, 3, none⟩ = some (.slice (some ⟨b1, o1, none⟩) n cA))
    (first | exact ⟨q0, q1, q2, q3⟩ | go_keep)
    (first
      | ((have _t := tok1; clear tok1; go_at_call 32; (with_reducible refine (uscale_at 18446744073709551615 18446744073709551615 rfl X cX nx xs _ (HX.out.below (chain B5.out HC0.out)) LX.out (by omega)).mono ?_); rintro e w6 ⟨As, ks, ns, rfl, h1, h2, hb2, h4, h5⟩
          have Ms := Lib.hid h1; have Qs := Lib.hid h2
          have HC1 := Lib.hid (HC0.out.trans (hb2.mono HC0.out.size))
          have BC1 := Lib.hid (chain B5.out HC1.out)
          have q0 := (HC1.out.cell (p := ⟨w.heap.size, 0, none⟩) lN).trans c0
          have q1 := (HC1.out.cell (p := ⟨w.heap.size, 1, none⟩) lN).trans c1
          have q2 := (HC1.out.cell (p := ⟨w.heap.size, 2, none⟩) lN).trans c2
          have q3 := (HC1.out.cell (p := ⟨w.heap.size, 3, none⟩) lN).trans c3
          have tok2 : True := trivial
          clear hb2 h1 h2 h4 h5))
      | ((have _t := tok2; clear tok2; go_at_call 26; (with_reducible refine (layer_any c h x _ As W cA n ks ns cW nw ls (scaleU 18446744073709551615 xs) ws uc (kk : Int) r _ (HRL.out.below BC1.out) LRL.out hn1 Qs.out Ms.out (HW.out.below BC1.out) LW.out HUC.out HR3.out).mono ?_); rintro e w7 ⟨Ac, kc, nc, rfl, h1, h2, hb3, h4, h5⟩
          have Mc := Lib.hid h1; have Qc := Lib.hid h2
          have HC2 := Lib.hid (HC1.out.trans (hb3.mono HC1.out.size))
          clear q0 q1 q2 q3
          have q0 := (HC2.out.cell (p := ⟨w.heap.size, 0, none⟩) lN).trans c0
          have q1 := (HC2.out.cell (p := ⟨w.heap.size, 1, none⟩) lN).trans c1
          have q2 := (HC2.out.cell (p := ⟨w.heap.size, 2, none⟩) lN).trans c2
          have q3 := (HC2.out.cell (p := ⟨w.heap.size, 3, none⟩) lN).trans c3
          clear hb3 h1 h2 h4 h5))
      | fail)
  have hb : Below w5.heap.size w5 w7 := HC2.out
  clear q0 q1 q2 q3 HC0 HC1 HC2 BC1 lN 
  have B7 := Lib.hid (chain B5.out hb)
  have N7 := Lib.hid (N5.out.below hb)
  have Qa := Lib.hid (Qa.out.below hb)
  have Qb := Lib.hid (Qb.out.below hb)
  clear hb c0 c1 c2 c3 B5 N5
  obtain ⟨c0, c1, c2, c3⟩ := N7.out.cells
  cases r
  · have z : ua = [] := NON.out rfl
    subst z
    obtain rfl : na = 0 := Ma.out
    go_wp2_with fail
    go_ret
    exact ⟨rfl, B7.out⟩
  have S1 := Lib.hid (SQ.out rfl).1; have S2 := Lib.hid (SQ.out rfl).2.1; have S3 := Lib.hid (SQ.out rfl).2.2
  go_wp2_with fail
  refine (umul X X cX cX nx xs xs _ (HX.out.below B7.out) (HX.out.below B7.out) LX.out LX.out (by omega)).mono ?_
  rintro e w8 ⟨Ae, ke, ne, rfl, h1, h2, hb, h4, h5⟩
  have Me := Lib.hid h1; have Qe := Lib.hid h2
  clear h1 h2 h4 h5 
  have B8 := Lib.hid (chain B7.out hb)
  have N8 := Lib.hid (N7.out.below hb)
  have Qa := Lib.hid (Qa.out.below hb)
  have Qb := Lib.hid (Qb.out.below hb)
  have Qc := Lib.hid (Qc.out.below hb)
  clear hb c0 c1 c2 c3 B7 N7
  obtain ⟨c0, c1, c2, c3⟩ := N8.out.cells
  go_wp2_with fail
  refine (usame Aa Ae ka ke na ne _ _ _ Qa.out Qe.out Ma.out Me.out (by rw [Ma.out]; have := HA8.out; omega) (S1.out)).mono ?_
  rintro e w9 ⟨rfl, hb⟩
  have B9 := Lib.hid (chain B8.out hb)
  have N9 := Lib.hid (N8.out.below hb)
  have Qa := Lib.hid (Qa.out.below hb)
  have Qb := Lib.hid (Qb.out.below hb)
  have Qc := Lib.hid (Qc.out.below hb)
  have Qe := Lib.hid (Qe.out.below hb)
  clear hb c0 c1 c2 c3 B8 N8
  obtain ⟨c0, c1, c2, c3⟩ := N9.out.cells
  go_wp2_with fail
  refine (uscale_at _ (k * k) KK.out Aa ka na ua _ Qa.out Ma.out (by rw [Ma.out]; have := HA8.out; omega)).mono ?_
  rintro e w10 ⟨Af, kf, nf, rfl, h1, h2, hb, h4, h5⟩
  have Mf := Lib.hid h1; have Qf := Lib.hid h2
  clear h1 h2 h4 h5 
  have B10 := Lib.hid (chain B9.out hb)
  have N10 := Lib.hid (N9.out.below hb)
  have Qa := Lib.hid (Qa.out.below hb)
  have Qb := Lib.hid (Qb.out.below hb)
  have Qc := Lib.hid (Qc.out.below hb)
  have Qe := Lib.hid (Qe.out.below hb)
  clear hb c0 c1 c2 c3 B9 N9
  obtain ⟨c0, c1, c2, c3⟩ := N10.out.cells
  go_wp2_with fail
  refine (usame Ab Af kb kf nb nf _ _ _ Qb.out Qf.out Mb.out Mf.out (by rw [Mb.out]; have := HB8.out; omega) (S2.out)).mono ?_
  rintro e w11 ⟨rfl, hb⟩
  have B11 := Lib.hid (chain B10.out hb)
  have N11 := Lib.hid (N10.out.below hb)
  have Qa := Lib.hid (Qa.out.below hb)
  have Qb := Lib.hid (Qb.out.below hb)
  have Qc := Lib.hid (Qc.out.below hb)
  have Qe := Lib.hid (Qe.out.below hb)
  have Qf := Lib.hid (Qf.out.below hb)
  clear hb c0 c1 c2 c3 B10 N10
  obtain ⟨c0, c1, c2, c3⟩ := N11.out.cells
  go_wp2_with fail
  refine (usame Ac Aa kc ka nc na _ _ _ Qc.out Qa.out Mc.out Ma.out (by rw [Mc.out]; have := HC8.out; omega) (S3.out)).mono ?_
  rintro e w12 ⟨rfl, hb⟩
  have B12 := Lib.hid (chain B11.out hb)
  have N12 := Lib.hid (N11.out.below hb)
  have Qa := Lib.hid (Qa.out.below hb)
  have Qb := Lib.hid (Qb.out.below hb)
  have Qc := Lib.hid (Qc.out.below hb)
  have Qe := Lib.hid (Qe.out.below hb)
  have Qf := Lib.hid (Qf.out.below hb)
  clear hb c0 c1 c2 c3 B11 N11
  obtain ⟨c0, c1, c2, c3⟩ := N12.out.cells
  go_wp2_with fail
  go_ret
  exact ⟨rfl, B12.out⟩

end Go.Proofs.Ytbcmhoomdackkaa
