/-
  CheckWeights: each layer's weights begin where those ahead end.
-/
import Derived.Test.YtjimliaalapkgaaHead
namespace Go.Proofs.Ytjimliaalapkgaa
open Go.RowKit

theorem at_none {N : Nt} (e : errN N ≠ 0) (i : Int) : atN N i = Kn.z := at_out (by rw [knN_no e]; simp)
theorem at_some {c h x : Int} {ls : List Ly} (e : errN ⟨c, h, x, ls⟩ = 0) {k : Nat} {l : Ly} (hl : ls[k]? = some l) :
    atN ⟨c, h, x, ls⟩ (k : Int) = ⟨l, endS ⟨c, h, x⟩ (ls.take k), outS (endS ⟨c, h, x⟩ (ls.take k)) l, sumW ⟨c, h, x⟩ (ls.take k)⟩ := by
  have hk : k < ls.length := (List.getElem?_eq_some_iff.1 hl).1
  have g := kn_get ls ⟨c, h, x⟩ 0 k l hl
  rw [← knN_ok e, Int.zero_add] at g
  have hk2 : k < (knN ⟨c, h, x, ls⟩).length := by rw [knN_ok e, kn_len]; exact hk
  rw [at_in (by omega) (by omega), Int.toNat_natCast]
  have g2 := kn_get? hk2
  rw [g] at g2
  exact (Option.some.inj g2).symm
theorem tots {c h x : Int} {ls : List Ly} (e : errN ⟨c, h, x, ls⟩ = 0) : totW (knN ⟨c, h, x, ls⟩) = sumW ⟨c, h, x⟩ ls ∧ totP (knN ⟨c, h, x, ls⟩) = sumP ⟨c, h, x⟩ ls := by
  rw [knN_ok e, tot_w, tot_p]; exact ⟨rfl, rfl⟩
theorem ok_all {c h x : Int} {ls : List Ly} (e : errN ⟨c, h, x, ls⟩ = 0) : rightB c h x = true ∧ ls.all lyB = true ∧ fitL ⟨c, h, x⟩ ls = true ∧ sumW ⟨c, h, x⟩ ls ≤ 512 ∧ sumP ⟨c, h, x⟩ ls ≤ 512 ∧ ls.length ≤ 8 := by
  obtain ⟨f, r, t, a, b⟩ := ok_parts e
  obtain ⟨_, f2, f3⟩ := form_parts f
  exact ⟨r, f3, t, a, b, f2⟩
theorem fit_take {s : Sh} {ls : List Ly} (h : fitL s ls = true) (k : Nat) : fitL s (ls.take k) = true := by
  rw [← List.take_append_drop k ls, fit_app, Bool.and_eq_true] at h; exact h.1
theorem fit_at {s : Sh} {ls : List Ly} (h : fitL s ls = true) {k : Nat} {l : Ly} (hl : ls[k]? = some l) : okS (endS s (ls.take k)) l = true := by
  cases o : okS (endS s (ls.take k)) l
  · rw [fit_stop hl o] at h; cases h
  · rfl
/-- What a right network's layer is. -/
theorem layer_facts {c h x : Int} {ls : List Ly} (e : errN ⟨c, h, x, ls⟩ = 0) {k : Nat} {l : Ly} (hl : ls[k]? = some l) :
    lyB l = true ∧ (endS ⟨c, h, x⟩ (ls.take k)).r = true ∧ okS (endS ⟨c, h, x⟩ (ls.take k)) l = true := by
  obtain ⟨r, f3, t, _, _, _⟩ := ok_all e
  exact ⟨List.all_eq_true.1 f3 l (List.mem_of_getElem? hl), end_right _ _ r (all_take f3 k) (fit_take t k), fit_at t hl⟩

set_option maxHeartbeats 8000000 in
set_option maxRecDepth 100000 in
theorem law_weights (c h x : Int) (A : Option Addr) (cA n : Nat) (ls : List Ly) (w : World) (hx : Rl w A ls) (ln : n = ls.length) :
    Calls Try.prog 6 #[.agg #[.int .i64 c, .int .i64 h, .int .i64 x, .slice A n cA]] w fun e w' => e = .returned (.bool true) ∧ Below w.heap.size w w' := by
  have HX := Lib.hid hx; have LX := Lib.hid ln
  clear hx ln
  go_enter Try.func6, Try.ntmps6
  go_wp2_with fail
  refine (head_any _).mono ?_
  rintro e w1 ⟨rfl, hb⟩
  have B1 := Lib.hid (chain ((Below.refl w.heap.size w).alloc (Nat.le_refl _) _) hb)
  have hN := (NB.new w c h x (.slice A n cA)).below hb
  have N1 := Lib.hid hN
  obtain ⟨c0, c1, c2, c3⟩ := hN.cells
  clear hb hN
  by_cases hg : 60 < n
  · have d : decide (60 < (n : Int)) = true := by simp; omega
    go_wp2_with fail
    refine (great_any c h x A cA n _ true d).mono ?_
    rintro e w2 ⟨rfl, hb⟩
    have B2 := Lib.hid (chain B1.out hb)
    clear hb
    go_wp2_with fail
    go_ret
    exact ⟨rfl, B2.out⟩
  have d : decide (60 < (n : Int)) = false := by simp; omega
  have hn : n ≤ 60 := by omega
  have hn1 : n ≤ 1000 := by omega
  go_wp2_with fail
  refine (great_any c h x A cA n _ false d).mono ?_
  rintro e w2 ⟨rfl, hb⟩
  have B2 := Lib.hid (chain B1.out hb)
  have N2 := Lib.hid (N1.out.below hb)
  clear hb B1 N1 c0 c1 c2 c3 hg d
  obtain ⟨c0, c1, c2, c3⟩ := N2.out.cells
  go_wp2_with fail
  refine (all_any c h x A cA n ls _ (HX.out.below B2.out) LX.out hn1).mono ?_
  rintro e w3 ⟨rfl, hb⟩
  have B3 := Lib.hid (chain B2.out hb)
  have N3 := Lib.hid (N2.out.below hb)
  clear hb B2 N2 c0 c1 c2 c3
  obtain ⟨c0, c1, c2, c3⟩ := N3.out.cells
  by_cases he : errN ⟨c, h, x, ls⟩ = 0
  · have HE := Lib.hid he
    rw [(tots he).1, (tots he).2]
    obtain ⟨X, hX⟩ : ∃ X, X = sumW ⟨c, h, x⟩ ls := ⟨_, rfl⟩
    obtain ⟨Y, hY⟩ : ∃ Y, Y = sumP ⟨c, h, x⟩ ls := ⟨_, rfl⟩
    rw [← hX, ← hY]
    have HXE := Lib.hid hX; have HYE := Lib.hid hY
    have hX5 : X ≤ 512 := by rw [hX]; exact (ok_all he).2.2.2.1
    have hY5 : Y ≤ 512 := by rw [hY]; exact (ok_all he).2.2.2.2.1
    have e1 : decide (X ≤ 512) = true := by simpa using hX5
    have e2 : decide (Y ≤ 512) = true := by simpa using hY5
    clear hX hY he
    go_wp2_with fail
    refine (okay_to c h x A cA n ls true (by rw [HE.out]; rfl) _ (HX.out.below B3.out) LX.out hn1).mono ?_
    rintro e w4 ⟨rfl, hb⟩
    have B4 := Lib.hid (chain B3.out hb)
    have N4 := Lib.hid (N3.out.below hb)
    clear hb B3 N3 c0 c1 c2 c3
    obtain ⟨c0, c1, c2, c3⟩ := N4.out.cells
    go_wp2_with fail
    clear c0 c1 c2 c3
    go_loopw [8, 9, 10] (fun a b i wr => ∃ k : Nat, k ≤ n ∧ a = .int .i64 (sumW ⟨c, h, x⟩ (ls.take k)) ∧ b = .int .i64 (sumP ⟨c, h, x⟩ (ls.take k)) ∧ i = .int .i64 k ∧ Hid (Below w.heap.size w wr) ∧ Hid (NB wr w.heap.size c h x (.slice A n cA))) (fun _ _ i _ => n - (intOf i).toNat)
    case atStart => exact ⟨0, Nat.zero_le _, rfl, rfl, rfl, B4, N4⟩
    case round =>
      obtain ⟨k, hk, rfl, rfl, rfl, B5, N5⟩ := hrel
      obtain ⟨c0, c1, c2, c3⟩ := N5.out.cells
      by_cases hlt : k < n
      · have hkl : k < ls.length := by rw [← LX.out]; exact hlt
        obtain ⟨b1, o1, rfl, l1, q⟩ := HX.out (by omega)
        obtain ⟨l, hle⟩ : ∃ l, l = ls.getD k Ly.z := ⟨_, rfl⟩
        have HL : Hid (ls[k]? = some l) := by show _ = _; rw [hle]; exact get_ly hkl
        have q5 := q k hkl
        rw [← hle] at q5
        have HQ := Lib.hid q5
        obtain ⟨f1, f2, f3⟩ := layer_facts HE.out HL.out
        have hat := at_some HE.out HL.out
        obtain ⟨m1, m2, m3, m4⟩ := w_pos f2 f1 f3
        have bd := sum_bd (s := ⟨c, h, x⟩) (ok_all HE.out).1 (all_take (ok_all HE.out).2.1 k) (fit_take (ok_all HE.out).2.2.1 k) (by rw [List.length_take]; omega)
        have bd2 := (kn_ok 0 f2 f1 f3).w
        have bd3 := (kn_ok 0 f2 f1 f3).p
        have hkind := ly_kind f1
        obtain ⟨a, hae⟩ : ∃ a, a = sumW ⟨c, h, x⟩ (ls.take k) := ⟨_, rfl⟩
        obtain ⟨b, hbe⟩ : ∃ b, b = sumP ⟨c, h, x⟩ (ls.take k) := ⟨_, rfl⟩
        obtain ⟨W, hWe⟩ : ∃ W, W = wI (endS ⟨c, h, x⟩ (ls.take k)) l := ⟨_, rfl⟩
        obtain ⟨P, hPe⟩ : ∃ P, P = pI (endS ⟨c, h, x⟩ (ls.take k)) (outS (endS ⟨c, h, x⟩ (ls.take k)) l) l := ⟨_, rfl⟩
        have A1 : Hid ((atN ⟨c, h, x, ls⟩ (k : Int)).a = a) := by rw [hat]; exact hae.symm
        have A2 : Hid ((atN ⟨c, h, x, ls⟩ (k : Int)).w = W) := by rw [hat]; exact hWe.symm
        have A3 : Hid ((atN ⟨c, h, x, ls⟩ (k : Int)).p = P) := by rw [hat]; exact hPe.symm
        have T1 : Hid (sumW ⟨c, h, x⟩ (ls.take (k + 1)) = a + W ∧ sumP ⟨c, h, x⟩ (ls.take (k + 1)) = b + P) := by rw [hae, hbe, hWe, hPe]; exact ⟨w_next HL.out, p_next HL.out⟩
        rw [← hae, ← hbe]
        rw [← hae, ← hbe] at bd
        unfold Kn.w at bd2
        unfold Kn.p at bd3
        simp only [← hWe, ← hPe] at m1 m2 m3 m4 bd2 bd3
        obtain ⟨z1, z2, z3, z4⟩ := bd
        obtain ⟨z5, z6⟩ := bd2
        obtain ⟨z7, z8⟩ := bd3
        clear hae hbe hWe hPe hat f1 f2 f3 hle q q5
        go_wp2_with fail
        refine (weights_to c h x _ cA n ls k a W A1.out A2.out _ (HX.out.below B5.out) LX.out hn1).mono ?_
        rintro e w6 ⟨rfl, hb⟩
        have B6 := Lib.hid (chain B5.out hb)
        have N6 := Lib.hid (N5.out.below hb)
        clear hb B5 N5 c0 c1 c2 c3
        obtain ⟨c0, c1, c2, c3⟩ := N6.out.cells
        go_wp2_with fail
        refine (products_to c h x _ cA n ls k P A3.out _ (HX.out.below B6.out) LX.out hn1).mono ?_
        rintro e w7 ⟨rfl, hb⟩
        have B7 := Lib.hid (chain B6.out hb)
        have N7 := Lib.hid (N6.out.below hb)
        obtain ⟨p0, p1, p2, p3⟩ := HQ.out.below B7.out l1
        clear hb B6 N6 c0 c1 c2 c3 p1 p2 p3
        obtain ⟨c0, c1, c2, c3⟩ := N7.out.cells
        have g1 : decide (W < 0) = false := by simp; omega
        have g2 : decide (P < W) = false := by simp; omega
        have g3 : (a != a) = false := by simp
        rcases hkind with hkk | hkk | hkk | hkk
        all_goals
          rw [hkk] at p0 m1 m4
          first
          | have g4 : (W == 0) = false := by simp; omega
          | have g4 : (W == 0) = true := by simp; omega
          first
          | have g5 : (P == 0) = false := by simp; omega
          | have g5 : (P == 0) = true := by simp; omega
          clear m1 m2 m3 m4 hkk
          go_wp2_with fail
          go_roundw
          case rel => exact ⟨k + 1, by omega, by rw [T1.out.1], by rw [T1.out.2], by go_num, B7, N7⟩
          case measure => simp [intOf]; omega
      · obtain rfl : k = n := by omega
        have et : ls.take k = ls := by rw [LX.out, List.take_length]
        rw [et, ← HXE.out, ← HYE.out]
        clear et
        go_wp2_with fail
        go_ret
        exact ⟨rfl, B5.out⟩
  · have HE := Lib.hid he
    rw [knN_no he]
    rw [show totW [] = 0 from rfl, show totP [] = 0 from rfl]
    clear he
    go_wp2_with fail
    refine (okay_to c h x A cA n ls false (by simpa using HE.out) _ (HX.out.below B3.out) LX.out hn1).mono ?_
    rintro e w4 ⟨rfl, hb⟩
    have B4 := Lib.hid (chain B3.out hb)
    have N4 := Lib.hid (N3.out.below hb)
    clear hb B3 N3 c0 c1 c2 c3
    obtain ⟨c0, c1, c2, c3⟩ := N4.out.cells
    go_wp2_with fail
    refine (weights_to c h x A cA n ls 0 0 0 (by rw [at_none HE.out]; rfl) (by rw [at_none HE.out]; rfl) _ (HX.out.below B4.out) LX.out hn1).mono ?_
    rintro e w5 ⟨rfl, hb⟩
    have B5 := Lib.hid (chain B4.out hb)
    have N5 := Lib.hid (N4.out.below hb)
    clear hb B4 N4 c0 c1 c2 c3
    obtain ⟨c0, c1, c2, c3⟩ := N5.out.cells
    go_wp2_with fail
    refine (products_to c h x A cA n ls 0 0 (by rw [at_none HE.out]; rfl) _ (HX.out.below B5.out) LX.out hn1).mono ?_
    rintro e w6 ⟨rfl, hb⟩
    have B6 := Lib.hid (chain B5.out hb)
    have N6 := Lib.hid (N5.out.below hb)
    clear hb B5 N5 c0 c1 c2 c3
    obtain ⟨c0, c1, c2, c3⟩ := N6.out.cells
    go_wp2_with fail
    go_ret
    exact ⟨rfl, B6.out⟩

end Go.Proofs.Ytjimliaalapkgaa
