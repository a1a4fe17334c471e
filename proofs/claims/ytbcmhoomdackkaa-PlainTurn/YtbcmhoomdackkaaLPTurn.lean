/-
  PlainTurn: a network is its layers, in turn; what does not fit is told.
-/
import Derived.Test.YtbcmhoomdackkaaULaw
import Derived.Test.YtbcmhoomdackkaaRefA
namespace Go.Proofs.Ytbcmhoomdackkaa
open Go.RowKit

set_option maxHeartbeats 4000000 in
set_option maxRecDepth 100000 in
theorem law_pturn (c h x : Int) (A : Option Addr) (cA n : Nat) (ls : List Ly) (X W : Option Addr) (cX nx cW nw : Nat) (xs ws : List UInt64) (w : World) (hx : Rl w A ls) (ln : n = ls.length) (hX : Rg ucells w X xs) (lX : nx = xs.length) (hW : Rg ucells w W ws) (lW : nw = ws.length) :
    Calls Try.prog 10 #[.agg #[.int .i64 c, .int .i64 h, .int .i64 x, .slice A n cA], .slice X nx cX, .slice W nw cW] w fun e w' => e = .returned (.bool true) ∧ Below w.heap.size w w' := by
  have HRL := Lib.hid hx; have LRL := Lib.hid ln
  have HX := Lib.hid hX; have LX := Lib.hid lX
  have HW := Lib.hid hW; have LW := Lib.hid lW
  clear hx ln hX lX hW lW
  go_enter Try.func10, Try.ntmps10
  go_wp2_with fail
  refine (head7_any _).mono ?_
  rintro e w1 ⟨rfl, hb⟩
  have B1 := Lib.hid (chain ((Below.refl w.heap.size w).alloc (Nat.le_refl _) _) hb)
  have N1 := Lib.hid ((NB.new w c h x (.slice A n cA)).below hb)
  clear hb
  obtain ⟨c0, c1, c2, c3⟩ := N1.out.cells
  by_cases hg : 60 < n ∨ 3000 < nx ∨ 3000 < nw
  · have hgr : (anyB [⟨X, nx, cX⟩, ⟨W, nw, cW⟩] || decide (60 < (n : Int))) = true := by unfold anyB; simp; omega
    go_wp2_with fail
    refine (great7_any c h x A cA n _ 2 _ [⟨X, nx, cX⟩, ⟨W, nw, cW⟩] _ true hgr (rg_block (heap_alloc_new _ _) rfl) rfl (by decide)).mono ?_
    rintro e w2 ⟨rfl, hb⟩
    have hb := ((Below.refl w1.heap.size w1).alloc (Nat.le_refl _) _).trans (hb.mono (by simp))
    have B2 := Lib.hid (chain B1.out hb)
    have N2 := Lib.hid (N1.out.below hb)
    clear hb c0 c1 c2 c3 B1 N1
    obtain ⟨c0, c1, c2, c3⟩ := N2.out.cells
    clear hg hgr
    go_wp2_with fail
    go_ret
    exact ⟨rfl, B2.out⟩
  have hgr : (anyB [⟨X, nx, cX⟩, ⟨W, nw, cW⟩] || decide (60 < (n : Int))) = false := by unfold anyB; simp; omega
  have hn60 : n ≤ 60 := by omega
  have hn1 : n ≤ 1000 := by omega
  have bX : nx ≤ 3000 := by omega
  have bW : nw ≤ 3000 := by omega
  go_wp2_with fail
  refine (great7_any c h x A cA n _ 2 _ [⟨X, nx, cX⟩, ⟨W, nw, cW⟩] _ false hgr (rg_block (heap_alloc_new _ _) rfl) rfl (by decide)).mono ?_
  rintro e w2 ⟨rfl, hb⟩
  have hb := ((Below.refl w1.heap.size w1).alloc (Nat.le_refl _) _).trans (hb.mono (by simp))
  have B2 := Lib.hid (chain B1.out hb)
  have N2 := Lib.hid (N1.out.below hb)
  clear hb c0 c1 c2 c3 B1 N1
  obtain ⟨c0, c1, c2, c3⟩ := N2.out.cells
  clear hg hgr
  have G := Lib.hid trivial
  obtain ⟨er, her⟩ : ∃ er, er = errN ⟨c, h, x, ls⟩ := ⟨_, rfl⟩
  obtain ⟨tw, htw⟩ : ∃ tw, tw = totW (knN ⟨c, h, x, ls⟩) := ⟨_, rfl⟩
  obtain ⟨tp, htp⟩ : ∃ tp, tp = totP (knN ⟨c, h, x, ls⟩) := ⟨_, rfl⟩
  obtain ⟨r, hr⟩ : ∃ r, okF ⟨c, h, x, ls⟩ xs ws = r := ⟨_, rfl⟩
  obtain ⟨ua, hua⟩ : ∃ u, fN ⟨c, h, x, ls⟩ xs ws = u := ⟨_, rfl⟩
  have HER := Lib.hid her; have HTW := Lib.hid htw; have HTP := Lib.hid htp; have HR := Lib.hid hr; have HUA := Lib.hid hua
  clear her htw htp hr hua G
  go_wp2_with fail
  refine (F_any c h x _ X W cA n cX nx cW nw ls xs ws ua r _ (HRL.out.below B2.out) LRL.out hn1 (HX.out.below B2.out) LX.out (HW.out.below B2.out) LW.out HUA.out HR.out).mono ?_
  rintro e w3 ⟨Aa, ka, na, rfl, h1, h2, hb, h4, h5⟩
  have Ma := Lib.hid h1; have Qa := Lib.hid h2
  clear h1 h2 h4 h5
  have B3 := Lib.hid (chain B2.out hb)
  have N3 := Lib.hid (N2.out.below hb)
  clear hb c0 c1 c2 c3 B2 N2
  obtain ⟨c0, c1, c2, c3⟩ := N3.out.cells
  go_wp2_with fail
  refine (rall_of c h x A cA n ls _ (HRL.out.below B3.out) LRL.out hn1).mono ?_
  rintro e w4 ⟨rfl, hb⟩
  rw [← HTW.out, ← HTP.out]
  have B4 := Lib.hid (chain B3.out hb)
  have N4 := Lib.hid (N3.out.below hb)
  have Qa := Lib.hid (Qa.out.below hb)
  clear hb c0 c1 c2 c3 B3 N3
  obtain ⟨c0, c1, c2, c3⟩ := N4.out.cells
  go_wp2_with fail
  refine (rright_of c h x A cA n ls _ (HRL.out.below B4.out) LRL.out hn1).mono ?_
  rintro e w5 ⟨rfl, hb⟩
  rw [← HER.out]
  have B5 := Lib.hid (chain B4.out hb)
  have N5 := Lib.hid (N4.out.below hb)
  have Qa := Lib.hid (Qa.out.below hb)
  clear hb c0 c1 c2 c3 B4 N4
  obtain ⟨c0, c1, c2, c3⟩ := N5.out.cells
  by_cases h0 : ¬ er = 0
  · have b0 : (er == 0) = false := by simpa using h0
    have NF : Hid (okF ⟨c, h, x, ls⟩ xs ws = false) := decide_eq_false fun q => h0 (HER.out.trans q.1)
    clear h0
    obtain rfl : r = false := HR.out.symm.trans NF.out
    obtain rfl : ua = [] := by rw [← HUA.out]; exact f_no NF.out
    obtain rfl : na = 0 := Ma.out
    go_wp2_with fail
    go_ret
    exact ⟨rfl, B5.out⟩
  have h0 : er = 0 := by omega
  have b0 : (er == 0) = true := by rw [h0]; rfl
  have he : errN ⟨c, h, x, ls⟩ = 0 := HER.out.symm.trans h0
  have r0 : (⟨c, h, x⟩ : Sh).r = true := (ok_all he).1
  obtain ⟨r1, r2, r3, r4, r5, r6, r7⟩ := right_bd r0
  have r1 : 1 ≤ c := r1
  have r2 : c ≤ 8 := r2
  have r3 : 1 ≤ h := r3
  have r4 : h ≤ 12 := r4
  have hn := Sh.n_eq r0
  obtain ⟨s, hs⟩ : ∃ s, s = (⟨c, h, x⟩ : Sh).n := ⟨_, rfl⟩
  obtain ⟨m, hm⟩ : ∃ m, m = c * h := ⟨_, rfl⟩
  have m1 := mul_bd (show 0 ≤ c by omega) r2 (show 0 ≤ h by omega) r4
  have m2 := size_bd ⟨c, h, x⟩
  rw [← hm] at m1
  rw [← hs] at m2
  have hn : s = m * x := by rw [hs, hn, hm]
  have v1 : IntKind.i64.wrap (c * h) = m := by rw [← hm, IntWalk.i64_in _ (by omega)]
  have v2 : wrap64 (c * h) = m := by rw [← hm, IntWalk.wrap64_in _ (by omega)]
  have v3 : IntKind.i64.wrap (m * x) = s := by rw [← hn, IntWalk.i64_in _ (by omega)]
  have v4 : wrap64 (m * x) = s := by rw [← hn, IntWalk.wrap64_in _ (by omega)]
  have HS := Lib.hid hs; have HE := Lib.hid he
  have n8 : n ≤ 8 := by rw [LRL.out]; exact (ok_all he).2.2.2.2.2
  clear h0 hn hs hm m1 m2 r0 r1 r2 r3 r4 r5 r6 r7 he
  by_cases hx : ¬ (nx : Int) = s
  · have b1 : ((nx : Int) == s) = false := by simpa using hx
    have NF : Hid (okF ⟨c, h, x, ls⟩ xs ws = false) := decide_eq_false fun q => hx (by rw [LX.out, HS.out]; exact q.2.1)
    clear hx
    obtain rfl : r = false := HR.out.symm.trans NF.out
    obtain rfl : ua = [] := by rw [← HUA.out]; exact f_no NF.out
    obtain rfl : na = 0 := Ma.out
    go_wp2_with fail
    go_ret
    exact ⟨rfl, B5.out⟩
  have hx : (nx : Int) = s := Decidable.not_not.1 hx
  have b1 : ((nx : Int) == s) = true := by rw [hx]; simp
  by_cases hw : ¬ (nw : Int) = tw
  · have b2 : ((nw : Int) == tw) = false := by simpa using hw
    have NF : Hid (okF ⟨c, h, x, ls⟩ xs ws = false) := decide_eq_false fun q => hw (by rw [LW.out, HTW.out]; exact q.2.2)
    clear hx hw
    obtain rfl : r = false := HR.out.symm.trans NF.out
    obtain rfl : ua = [] := by rw [← HUA.out]; exact f_no NF.out
    obtain rfl : na = 0 := Ma.out
    go_wp2_with fail
    go_ret
    exact ⟨rfl, B5.out⟩
  have hw : (nw : Int) = tw := Decidable.not_not.1 hw
  have b2 : ((nw : Int) == tw) = true := by rw [hw]; simp
  have YF : Hid (okF ⟨c, h, x, ls⟩ xs ws = true) := decide_eq_true ⟨HE.out, by rw [← LX.out]; exact hx.trans HS.out, by rw [← LW.out, ← HTW.out]; exact hw⟩
  obtain rfl : r = true := HR.out.symm.trans YF.out
  obtain rfl : ua = runN ⟨c, h, x, ls⟩ ws ls.length xs := by rw [← HUA.out]; exact f_yes YF.out
  clear hx hw
  have Y0 : Hid (∃ A' k' n', (Value.slice X nx cX) = .slice A' n' k' ∧ n' = (runN ⟨c, h, x, ls⟩ ws 0 xs).length ∧ Rg ucells w5 A' (runN ⟨c, h, x, ls⟩ ws 0 xs)) := ⟨X, cX, nx, rfl, LX.out, HX.out.below B5.out⟩
  have RB : Hid (∀ j, j ≤ n → (runN ⟨c, h, x, ls⟩ ws j xs).length ≤ 1000000) := fun j hj => by
    have h1 := run_len HE.out ws (xs := xs) (okF_out YF.out).2.1 j (by rw [← LRL.out]; exact hj)
    have h2 := size_bd (endS ⟨c, h, x⟩ (ls.take j))
    omega
  go_wp2_with fail
  clear c0 c1 c2 c3 b0 b1 b2 v1 v2 v3 v4
  go_loopg [13, 14, 15, 16] n (fun g s11 s12 _ _ wx => ∃ j : Nat, j ≤ n ∧ Hid (g = n - j) ∧ s12 = .int .i64 (j : Int) ∧ Hid (∃ A' k' n', s11 = .slice A' n' k' ∧ n' = (runN ⟨c, h, x, ls⟩ ws j xs).length ∧ Rg ucells wx A' (runN ⟨c, h, x, ls⟩ ws j xs)) ∧ Hid (Below w5.heap.size w5 wx))
  case atStart => exact ⟨0, by omega, by show _ = _; omega, rfl, Y0, Below.refl _ _⟩
  case round =>
    obtain ⟨j, hj, HG, rfl, YK, BK⟩ := hrel
    obtain ⟨A6, k6, n6, rfl, h61, h62⟩ := YK.out
    have Y1 := Lib.hid h61; have Y2 := Lib.hid h62
    have BW := Lib.hid (chain B5.out BK.out)
    have NW := Lib.hid (N5.out.below BK.out)
    obtain ⟨c0, c1, c2, c3⟩ := NW.out.cells
    clear h61 h62 YK
    by_cases jn : j < n
    · have jb : (j : Int) < (n : Int) := by omega
      have hjl : j < ls.length := by rw [← LRL.out]; exact jn
      have OK := Lib.hid (run_ok YF.out hjl)
      have LY := Lib.hid (lay_yes OK.out)
      clear hjl
      go_wp2_with fail
      refine (layer_any c h x A A6 W cA n k6 n6 cW nw ls _ ws _ (j : Int) true _ (HRL.out.below BW.out) LRL.out hn1 Y2.out Y1.out (HW.out.below BW.out) LW.out LY.out OK.out).mono ?_
      rintro e w20 ⟨A7, k7, n7, rfl, h71, h72, hb, h74, h75⟩
      have Z1 := Lib.hid h71; have Z2 := Lib.hid h72
      have B7 := Lib.hid (chain BK.out hb)
      clear h71 h72 h74 h75 hb c0 c1 c2 c3
      go_wp2_with fail
      go_roundg (n - (j + 1))
      case measure => have := HG.out; omega
      case rel => exact ⟨j + 1, by omega, rfl, by go_num, ⟨A7, k7, n7, rfl, Z1.out, Z2.out⟩, B7⟩
    · obtain rfl : j = n := by omega
      have E1 : Hid (runN ⟨c, h, x, ls⟩ ws ls.length xs = runN ⟨c, h, x, ls⟩ ws j xs) := by show _ = _; rw [← LRL.out]
      have QA := Lib.hid (Qa.out.below BK.out)
      go_wp2_with fail
      refine (usame Aa A6 ka k6 na n6 _ _ _ QA.out Y2.out Ma.out Y1.out (by rw [Ma.out, E1.out]; exact RB.out j (Nat.le_refl _)) E1.out).mono ?_
      rintro e w21 ⟨rfl, hb⟩
      have B8 := Lib.hid (chain BW.out hb)
      clear hb
      go_wp2_with fail
      go_ret
      exact ⟨rfl, B8.out⟩

end Go.Proofs.Ytbcmhoomdackkaa
