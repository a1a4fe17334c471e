/-
  PlainTells: what any layer, and all of any network, make of any numbers is the document's.
-/
import Derived.Test.YtbcmhoomdackkaaRLay
namespace Go.Proofs.Ytbcmhoomdackkaa
open Go.RowKit

set_option maxHeartbeats 2000000 in
set_option maxRecDepth 100000 in
theorem law_ptells (c h x : Int) (A : Option Addr) (cA n : Nat) (ls : List Ly) (i : Int) (X W : Option Addr) (cX nx cW nw : Nat) (xs ws : List UInt64) (w : World) (hx : Rl w A ls) (ln : n = ls.length) (hX : Rg ucells w X xs) (lX : nx = xs.length) (hW : Rg ucells w W ws) (lW : nw = ws.length) :
    Calls Try.prog 6 #[.agg #[.int .i64 c, .int .i64 h, .int .i64 x, .slice A n cA], .int .i64 i, .slice X nx cX, .slice W nw cW] w fun e w' => e = .returned (.bool true) ∧ Below w.heap.size w w' := by
  have HRL := Lib.hid hx; have LRL := Lib.hid ln
  have HX := Lib.hid hX; have LX := Lib.hid lX
  have HW := Lib.hid hW; have LW := Lib.hid lW
  clear hx ln hX lX hW lW
  go_enter Try.func6, Try.ntmps6
  go_wp2_with fail
  refine (head7_any _).mono ?_
  rintro e w1 ⟨rfl, hb⟩
  have B1 := Lib.hid (chain ((Below.refl w.heap.size w).alloc (Nat.le_refl _) _) hb)
  have N1 := Lib.hid ((NB.new w c h x (.slice A n cA)).below hb)
  clear hb
  obtain ⟨c0, c1, c2, c3⟩ := N1.out.cells
  by_cases hg : 60 < n ∨ 3000 < nx ∨ 3000 < nw
  · have hgr : (anyB [⟨X, nx, cX⟩, ⟨W, nw, cW⟩] || decide (60 < (n : Int))) = true := by unfold anyB; simp; omega
    go_wp2_with fail
    refine (great7_any c h x A cA n _ 2 _ [⟨X, nx, cX⟩, ⟨W, nw, cW⟩] _ true hgr (rg_block (heap_alloc_new _ _) rfl) rfl (by decide)).mono ?_
    rintro e w2 ⟨rfl, hb⟩
    have hb := ((Below.refl w1.heap.size w1).alloc (Nat.le_refl _) _).trans (hb.mono (by simp))
    have B2 := Lib.hid (chain B1.out hb)
    have N2 := Lib.hid (N1.out.below hb)
    clear hb c0 c1 c2 c3 B1 N1
    obtain ⟨c0, c1, c2, c3⟩ := N2.out.cells
    clear hg hgr
    go_wp2_with fail
    go_ret
    exact ⟨rfl, B2.out⟩
  have hgr : (anyB [⟨X, nx, cX⟩, ⟨W, nw, cW⟩] || decide (60 < (n : Int))) = false := by unfold anyB; simp; omega
  have hn60 : n ≤ 60 := by omega
  have hn1 : n ≤ 1000 := by omega
  have bX : nx ≤ 3000 := by omega
  have bW : nw ≤ 3000 := by omega
  go_wp2_with fail
  refine (great7_any c h x A cA n _ 2 _ [⟨X, nx, cX⟩, ⟨W, nw, cW⟩] _ false hgr (rg_block (heap_alloc_new _ _) rfl) rfl (by decide)).mono ?_
  rintro e w2 ⟨rfl, hb⟩
  have hb := ((Below.refl w1.heap.size w1).alloc (Nat.le_refl _) _).trans (hb.mono (by simp))
  have B2 := Lib.hid (chain B1.out hb)
  have N2 := Lib.hid (N1.out.below hb)
  clear hb c0 c1 c2 c3 B1 N1
  obtain ⟨c0, c1, c2, c3⟩ := N2.out.cells
  clear hg hgr
  obtain ⟨r, hr⟩ : ∃ r, okL ⟨c, h, x, ls⟩ i xs ws = r := ⟨_, rfl⟩
  obtain ⟨s, hs⟩ : ∃ s, okF ⟨c, h, x, ls⟩ xs ws = s := ⟨_, rfl⟩
  have HR := Lib.hid hr; have HS := Lib.hid hs
  have rr : (r == r) = true := by cases r <;> rfl
  have ss : (s == s) = true := by cases s <;> rfl
  obtain ⟨ua, hua⟩ : ∃ u, layN ⟨c, h, x, ls⟩ i xs ws = u := ⟨_, rfl⟩
  obtain ⟨uc, huc⟩ : ∃ u, fN ⟨c, h, x, ls⟩ xs ws = u := ⟨_, rfl⟩
  have HUA := Lib.hid hua; have HUC := Lib.hid huc
  have HA8 : Hid (ua.length ≤ 128) := by rw [hua.symm]; exact layN_len _ _ _ _
  have HC8 : Hid (uc.length ≤ 128) := by
    show uc.length ≤ 128
    rw [huc.symm]
    cases ok : okF ⟨c, h, x, ls⟩ xs ws
    · rw [f_no ok]; simp
    · obtain ⟨e, h1, _⟩ := okF_out ok
      have := run_len e ws h1 ls.length (Nat.le_refl _)
      have := size_bd (endS ⟨c, h, x⟩ (ls.take ls.length))
      rw [f_yes ok]
      show (runN ⟨c, h, x, ls⟩ ws ls.length xs).length ≤ 128
      omega
  clear hr hs hua huc
  go_wp2_with fail
  refine (layer_any c h x A X W cA n cX nx cW nw ls xs ws ua i r _ (HRL.out.below B2.out) LRL.out hn1 (HX.out.below B2.out) LX.out (HW.out.below B2.out) LW.out HUA.out HR.out).mono ?_
  rintro e w3 ⟨Aa, ka, na, rfl, h1, h2, hb, h4, h5⟩
  have Ma := Lib.hid h1; have Qa := Lib.hid h2
  clear h1 h2 h4 h5
  have B3 := Lib.hid (chain B2.out hb)
  have N3 := Lib.hid (N2.out.below hb)
  clear hb c0 c1 c2 c3 B2 N2
  obtain ⟨c0, c1, c2, c3⟩ := N3.out.cells
  go_wp2_with fail
  refine (rlay7_any c h x A X W cA n cX nx cW nw ls xs ws ua i r _ (HRL.out.below B3.out) LRL.out hn1 (HX.out.below B3.out) LX.out (HW.out.below B3.out) LW.out HUA.out HR.out).mono ?_
  rintro e w4 ⟨Ab, kb, nb, rfl, h1, h2, hb, h4, h5⟩
  have Mb := Lib.hid h1; have Qb := Lib.hid h2
  clear h1 h2 h4 h5
  have B4 := Lib.hid (chain B3.out hb)
  have N4 := Lib.hid (N3.out.below hb)
  have Qa := Lib.hid (Qa.out.below hb)
  clear hb c0 c1 c2 c3 B3 N3
  obtain ⟨c0, c1, c2, c3⟩ := N4.out.cells
  go_wp2_with fail
  refine (F_any c h x A X W cA n cX nx cW nw ls xs ws uc s _ (HRL.out.below B4.out) LRL.out hn1 (HX.out.below B4.out) LX.out (HW.out.below B4.out) LW.out HUC.out HS.out).mono ?_
  rintro e w5 ⟨Ac, kc, nc, rfl, h1, h2, hb, h4, h5⟩
  have Mc := Lib.hid h1; have Qc := Lib.hid h2
  clear h1 h2 h4 h5
  have B5 := Lib.hid (chain B4.out hb)
  have N5 := Lib.hid (N4.out.below hb)
  have Qa := Lib.hid (Qa.out.below hb)
  have Qb := Lib.hid (Qb.out.below hb)
  clear hb c0 c1 c2 c3 B4 N4
  obtain ⟨c0, c1, c2, c3⟩ := N5.out.cells
  go_wp2_with fail
  refine (rF_any c h x A X W cA n cX nx cW nw ls xs ws uc s _ (HRL.out.below B5.out) LRL.out hn1 (HX.out.below B5.out) LX.out (HW.out.below B5.out) LW.out HUC.out HS.out).mono ?_
  rintro e w6 ⟨Ad, kd, nd, rfl, h1, h2, hb, h4, h5⟩
  have Md := Lib.hid h1; have Qd := Lib.hid h2
  clear h1 h2 h4 h5
  have B6 := Lib.hid (chain B5.out hb)
  have N6 := Lib.hid (N5.out.below hb)
  have Qa := Lib.hid (Qa.out.below hb)
  have Qb := Lib.hid (Qb.out.below hb)
  have Qc := Lib.hid (Qc.out.below hb)
  clear hb c0 c1 c2 c3 B5 N5
  obtain ⟨c0, c1, c2, c3⟩ := N6.out.cells
  go_wp2_with fail
  refine (usame Aa Ab ka kb na nb _ _ _ Qa.out Qb.out Ma.out Mb.out (by rw [Ma.out]; have := HA8.out; omega) (rfl)).mono ?_
  rintro e w7 ⟨rfl, hb⟩
  have B7 := Lib.hid (chain B6.out hb)
  have N7 := Lib.hid (N6.out.below hb)
  have Qa := Lib.hid (Qa.out.below hb)
  have Qb := Lib.hid (Qb.out.below hb)
  have Qc := Lib.hid (Qc.out.below hb)
  have Qd := Lib.hid (Qd.out.below hb)
  clear hb c0 c1 c2 c3 B6 N6
  obtain ⟨c0, c1, c2, c3⟩ := N7.out.cells
  go_wp2_with fail
  refine (usame Ac Ad kc kd nc nd _ _ _ Qc.out Qd.out Mc.out Md.out (by rw [Mc.out]; have := HC8.out; omega) (rfl)).mono ?_
  rintro e w8 ⟨rfl, hb⟩
  have B8 := Lib.hid (chain B7.out hb)
  have N8 := Lib.hid (N7.out.below hb)
  have Qa := Lib.hid (Qa.out.below hb)
  have Qb := Lib.hid (Qb.out.below hb)
  have Qc := Lib.hid (Qc.out.below hb)
  have Qd := Lib.hid (Qd.out.below hb)
  clear hb c0 c1 c2 c3 B7 N7
  obtain ⟨c0, c1, c2, c3⟩ := N8.out.cells
  go_wp2_with fail
  go_ret
  exact ⟨rfl, B8.out⟩

end Go.Proofs.Ytbcmhoomdackkaa
