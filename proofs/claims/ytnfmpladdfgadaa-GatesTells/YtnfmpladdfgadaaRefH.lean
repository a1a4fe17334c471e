/-
  What the document's own Shapes answers.
-/
import Derived.Test.YtnfmpladdfgadaaRefP
import Derived.Test.YtnfmpladdfgadaaRForm2
import Derived.Test.YtnfmpladdfgadaaTurn
namespace Go.Proofs.Ytnfmpladdfgadaa
open Go.RowKit

theorem sh_next {s : Sh} {ls : List Ly} {k : Nat} {l : Ly} (h : ls[k]? = some l) : shL s (ls.take (k + 1)) = shL s (ls.take k) ++ [outS (endS s (ls.take k)) l] := by
  rw [take_get h, sh_kn _ s 0, sh_kn _ s 0, kn_app]; simp [knL]
theorem sh_last {s : Sh} {ls : List Ly} {k : Nat} (h : k ≤ ls.length) : (shL s (ls.take k))[k]? = some (endS s (ls.take k)) := by
  have := sh_get (ls.take k) s k (by rw [List.length_take]; omega)
  rwa [List.take_take, Nat.min_self] at this
/-- A row of one's own that is no empty one lies in a block of its own. -/
theorem own_at {α : Type} {f : α → List Value} {m : Nat} (hf : ∀ x, (f x).length = m) (hm : 0 < m) {w : World} {B e n : Nat} {v : Value} {xs : List α} (h : w.ownsRow B e m v n (xs.flatMap f)) (h0 : 0 < n) :
    ∃ g c, v = .slice (some ⟨g, 0, none⟩) n c ∧ n = xs.length ∧ B ≤ g ∧ g < w.heap.size ∧ n ≤ c ∧ c ≤ maxLen ∧ ∀ j u, (xs.flatMap f)[j]? = some u → w.cell? ⟨g, 0 + j, none⟩ = some u := by
  obtain ⟨A, c, hv, hn, hR, h1, h2⟩ := own_cap hf hm h
  obtain ⟨b, off, hA, hlt, hc⟩ := hR (by omega)
  rcases h.2 with ⟨hv2, h3⟩ | ⟨g, cp, cur, hv2, hB, _, _, _, _, _⟩
  · omega
  · rw [hv2] at hv
    injection hv with z1 z2 z3
    rw [hA] at z1
    injection z1 with z1
    injection z1 with z4 z5
    subst z4 z5
    exact ⟨g, c, by rw [hv2, z3], hn, hB, hlt, h1, h2, hc⟩

def RS (w1 : World) (s : Sh) (ls : List Ly) (B k : Nat) (v : Value) (wr : World) : Prop :=
  wr.ownsRow B 23 3 v (k + 1) ((shL s (ls.take k)).flatMap scells) ∧ Below w1.heap.size w1 wr

set_option maxHeartbeats 8000000 in
set_option maxRecDepth 100000 in
theorem rshapes_rest (c h x : Int) (A : Option Addr) (cA n : Nat) (ls : List Ly) (w : World) (hx : Rl w A ls) (ln : n = ls.length) (hn : n ≤ 1000) (hf : formB ⟨c, h, x, ls⟩ = true) (hr : rightB c h x = true) :
    Calls Try.prog 15 #[.agg #[.int .i64 c, .int .i64 h, .int .i64 x, .slice A n cA]] w (ShapesTo ⟨c, h, x, ls⟩ w) := by
  obtain ⟨i0', hi, hz0, hz1, hz2⟩ := info_parts Try.info23
  have HX := Lib.hid hx; have LX := Lib.hid ln; have HF := Lib.hid hf; have HR := Lib.hid hr
  clear hx ln hf hr
  go_enter Try.func15, Try.ntmps15
  go_wp2_with fail
  refine (rform_any c h x A cA n ls _ (HX.out.below ((Below.refl _ w).alloc (Nat.le_refl _) _)) LX.out hn).mono ?_
  rintro e w1 ⟨rfl, hb⟩
  rw [HF.out]
  have B1 := Lib.hid (chain ((Below.refl w.heap.size w).alloc (Nat.le_refl _) _) hb)
  have N1 := Lib.hid ((NB.new w c h x (.slice A n cA)).below hb)
  obtain ⟨c0, c1, c2, c3⟩ := N1.out.cells
  clear hb
  go_wp2_with fail
  refine (rright_yes c h x _ HR.out).mono ?_
  rintro e w2 ⟨rfl, hb⟩
  have B2 := Lib.hid (chain B1.out hb)
  have N2 := Lib.hid (N1.out.below hb)
  clear hb B1 N1 c0 c1 c2 c3
  obtain ⟨c0, c1, c2, c3⟩ := N2.out.cells
  obtain ⟨s, HS⟩ : ∃ s : Sh, Hid (s = ⟨c, h, x⟩) := ⟨_, rfl⟩
  obtain ⟨B, hB⟩ : ∃ B, B = w2.heap.size := ⟨_, rfl⟩
  obtain ⟨wX, hwX⟩ : ∃ wX, wX = w2.alloc (.cells #[.int .i64 c, .int .i64 h, .int .i64 x] 23) := ⟨_, rfl⟩
  have AT0 : Hid (RS w2 s ls B 0 (.slice (some ⟨B, 0, none⟩) 1 1) wX) := by
    rw [hwX, hB, HS.out]
    exact ⟨⟨rfl, .inr ⟨w2.heap.size, 1, #[.int .i64 c, .int .i64 h, .int .i64 x], rfl, Nat.le_refl _, heap_alloc_new w2 _, Nat.le_refl _, by decide, rfl, rfl⟩⟩, (Below.refl _ w2).alloc (Nat.le_refl _) _⟩
  have HA : Hid (ls.all lyB = true) := (form_parts HF.out).2.2
  have HSR : Hid (s.r = true) := by rw [HS.out]; exact HR.out
  have hwB : w.heap.size < B := by rw [hB]; exact N2.out.lt
  have HBB := Lib.hid hB
  go_wp2_with fail
  rw [← hwX, ← hB]
  clear hwX hB c0 c1 c2 c3
  go_loopw [4, 5, 6, 7] (fun v a p i wr => ∃ k : Nat, k ≤ n ∧ a = .int .i64 (sumW s (ls.take k)) ∧ p = .int .i64 (sumP s (ls.take k)) ∧ i = .int .i64 k ∧ Hid (fitL s (ls.take k) = true) ∧ Hid (RS w2 s ls B k v wr)) (fun _ _ _ i _ => n - (intOf i).toNat)
  case atStart => exact ⟨0, Nat.zero_le _, rfl, rfl, rfl, rfl, AT0⟩
  case round =>
    obtain ⟨k, hk, rfl, rfl, rfl, FT, AT⟩ := hrel
    obtain ⟨hO, hBw⟩ := id AT.out
    have hBn := chain B2.out hBw
    have N3 := Lib.hid (N2.out.below hBw)
    obtain ⟨c0, c1, c2, c3⟩ := N3.out.cells
    by_cases hlt : k < n
    · have hkl : k < ls.length := by rw [← LX.out]; exact hlt
      obtain ⟨b1, o1, rfl, l1, q⟩ := HX.out (by omega)
      obtain ⟨l, hle⟩ : ∃ l, l = ls.getD k Ly.z := ⟨_, rfl⟩
      have hq := (q k hkl).below hBn l1
      rw [← hle] at hq
      have HL : Hid (ls[k]? = some l) := by show _ = _; rw [hle]; exact get_ly hkl
      have hly : lyB l = true := List.all_eq_true.1 HA.out l (List.mem_of_getElem? HL.out)
      have HLY := Lib.hid hly
      obtain ⟨p0, p1, p2, p3⟩ := hq
      have bd := sum_bd HSR.out (all_take HA.out k) FT.out (by rw [List.length_take]; omega)
      obtain ⟨S, hSe⟩ : ∃ S, S = endS s (ls.take k) := ⟨_, rfl⟩
      have hgs := sh_last (s := s) (ls := ls) (k := k) (by omega)
      rw [← hSe] at hgs
      obtain ⟨bs, cs, rfl, hkn, hgB, hgl, hk1, hk2, hcell⟩ := own_at scells_len (by decide) hO (by omega)
      obtain ⟨s0, s1, s2⟩ := sh_at hcell hgs
      simp only [Nat.zero_add] at s0 s1 s2
      obtain ⟨a, hae⟩ : ∃ a, a = sumW s (ls.take k) := ⟨_, rfl⟩
      obtain ⟨p, hpe⟩ : ∃ p, p = sumP s (ls.take k) := ⟨_, rfl⟩
      rw [← hae, ← hpe] at bd
      rw [← hae, ← hpe]
      obtain ⟨bd1, bd2, bd3, bd4⟩ := bd
      have HSE := Lib.hid hSe; have HAE := Lib.hid hae; have HPE := Lib.hid hpe
      have HO := Lib.hid hO; have HBw := Lib.hid hBw; have HBn := Lib.hid hBn
      have hnz : w.heap.size < wr.heap.size := N3.out.lt
      have l1r : b1 < wr.heap.size := Nat.lt_of_lt_of_le l1 hBn.size
      have HCS := Lib.hid hk2
      have HCS2 := Lib.hid hk1
      obtain ⟨m, hm⟩ : ∃ m, m = k + 1 := ⟨_, rfl⟩
      rw [← hm] at hk1 hO ⊢
      have km : k < m := by omega
      have ki : (k : Int) < (m : Int) := by omega
      have kn : (k : Int) < (n : Int) := by omega
      have ka : (0 : Int) ≤ (k : Int) := by omega
      have HM := Lib.hid hm
      clear hm
      clear q hle hSe hae hpe hO hBw hBn hly AT hcell hgs hkn hk1 hk2 c0 c1 c2
      go_wp2_with fail
      obtain ⟨r, hre⟩ : ∃ r, okS S l = r := ⟨_, rfl⟩
      obtain ⟨T, hTe⟩ : ∃ T, T = outS S l := ⟨_, rfl⟩
      have HRE := Lib.hid hre; have HTE := Lib.hid hTe
      clear hre hTe
      have HC0 : Hid (Below wr.heap.size wr wr.drew) := below_drew wr
      have HD0 : Hid (Below wr.heap.size wr ((wr.alloc (.cells #[.int .i64 0, .int .i64 0, .int .i64 0] 23)).drew)) := ((Below.refl _ wr).alloc (Nat.le_refl _) _).drew
      have tok1 : True := trivial
      go_region_held3 (fun w' => w'.cell? ⟨bs, k * 3, none⟩ = some (.int .i64 S.c) ∧ w'.cell? ⟨bs, k * 3 + 1, none⟩ = some (.int .i64 S.h) ∧ w'.cell? ⟨bs, k * 3 + 2, none⟩ = some (.int .i64 S.x) ∧ w'.cell? ⟨w.heap.size, 3, none⟩ = some (.slice (some ⟨b1, o1, none⟩) n cA) ∧ w'.cell? ⟨b1, o1 + k * 4, none⟩ = some (.int .i64 l.k) ∧ w'.cell? ⟨b1, o1 + k * 4 + 1, none⟩ = some (.int .i64 l.o) ∧ w'.cell? ⟨b1, o1 + k * 4 + 2, none⟩ = some (.int .i64 l.s) ∧ w'.cell? ⟨b1, o1 + k * 4 + 3, none⟩ = some (.int .i64 l.t))
        (first | exact ⟨q0, q1, q2, q3, q4, q5, q6, q7⟩ | go_keep)
        (first
          | ((have _t := tok1; clear tok1; go_at_call 57; (with_reducible refine (rout_any S l T r HLY.out HRE.out (fun _ => HTE.out) wr.drew).mono ?_); rintro e w4 ⟨U, hU, rfl, hb4⟩
              have HC1 := Lib.hid (HC0.out.trans (hb4.mono HC0.out.size))
              have hsz := HC1.out.size
              have ne0 : ¬ bs = w4.heap.size := by omega
              have me0 : ¬ w4.heap.size = bs := by omega
              have ne1 : ¬ w.heap.size = w4.heap.size := by omega
              have me1 : ¬ w4.heap.size = w.heap.size := by omega
              have ne2 : ¬ b1 = w4.heap.size := by omega
              have me2 : ¬ w4.heap.size = b1 := by omega
              clear hsz
              have q0 := (HC1.out.cell (p := ⟨bs, k * 3, none⟩) hgl).trans s0
              have q1 := (HC1.out.cell (p := ⟨bs, k * 3 + 1, none⟩) hgl).trans s1
              have q2 := (HC1.out.cell (p := ⟨bs, k * 3 + 2, none⟩) hgl).trans s2
              have q3 := (HC1.out.cell (p := ⟨w.heap.size, 3, none⟩) hnz).trans c3
              have q4 := (HC1.out.cell (p := ⟨b1, o1 + k * 4, none⟩) l1r).trans p0
              have q5 := (HC1.out.cell (p := ⟨b1, o1 + k * 4 + 1, none⟩) l1r).trans p1
              have q6 := (HC1.out.cell (p := ⟨b1, o1 + k * 4 + 2, none⟩) l1r).trans p2
              have q7 := (HC1.out.cell (p := ⟨b1, o1 + k * 4 + 3, none⟩) l1r).trans p3
              clear hb4))
          | ((have _t := tok1; clear tok1; go_at_call 57; (with_reducible refine (rout_any S l T r HLY.out HRE.out (fun _ => HTE.out) (wr.alloc _).drew).mono ?_); rintro e w4 ⟨U, hU, rfl, hb4⟩
              have HC1 := Lib.hid (HD0.out.trans (hb4.mono HD0.out.size))
              have SBn : SB w4 wr.heap.size ⟨0, 0, 0⟩ := (hb4.block wr.heap.size (by simp)).trans (SB.new wr ⟨0, 0, 0⟩)
              obtain ⟨y0, y1, y2⟩ := SBn.cells
              have f0 := SBn.frozen 0
              have f1 := SBn.frozen 1
              have f2 := SBn.frozen 2
              have SBN := Lib.hid SBn
              clear SBn
              have ne0 : ¬ bs = wr.heap.size := by omega
              have me0 : ¬ wr.heap.size = bs := by omega
              have ne1 : ¬ w.heap.size = wr.heap.size := by omega
              have me1 : ¬ wr.heap.size = w.heap.size := by omega
              have ne2 : ¬ b1 = wr.heap.size := by omega
              have me2 : ¬ wr.heap.size = b1 := by omega
              have q0 := (HC1.out.cell (p := ⟨bs, k * 3, none⟩) hgl).trans s0
              have q1 := (HC1.out.cell (p := ⟨bs, k * 3 + 1, none⟩) hgl).trans s1
              have q2 := (HC1.out.cell (p := ⟨bs, k * 3 + 2, none⟩) hgl).trans s2
              have q3 := (HC1.out.cell (p := ⟨w.heap.size, 3, none⟩) hnz).trans c3
              have q4 := (HC1.out.cell (p := ⟨b1, o1 + k * 4, none⟩) l1r).trans p0
              have q5 := (HC1.out.cell (p := ⟨b1, o1 + k * 4 + 1, none⟩) l1r).trans p1
              have q6 := (HC1.out.cell (p := ⟨b1, o1 + k * 4 + 2, none⟩) l1r).trans p2
              have q7 := (HC1.out.cell (p := ⟨b1, o1 + k * 4 + 3, none⟩) l1r).trans p3
              clear hb4))
          | fail)
      · obtain ⟨w5, hw5⟩ : ∃ w5, w5 = w4.alloc (.cells #[.int .i64 U.c, .int .i64 U.h, .int .i64 U.x] 23) := ⟨_, rfl⟩
        obtain ⟨tb, htb⟩ : ∃ tb, tb = w4.heap.size := ⟨_, rfl⟩
        have TB : Hid (SB w5 tb U) := by rw [hw5, htb]; exact SB.new w4 U
        have B5 : Hid (Below wr.heap.size wr w5) := by rw [hw5]; exact chain_alloc HC1.out _
        rw [← hw5, ← htb]
        clear hw5 htb q0 q1 q2 q3 q4 q5 q6 q7 ne0 me0 ne1 me1 ne2 me2 HC0 HD0 HC1
        have gl5 : bs < w5.heap.size := Nat.lt_of_lt_of_le hgl B5.out.size
        have nz5 : w.heap.size < w5.heap.size := Nat.lt_of_lt_of_le hnz B5.out.size
        have lr5 : b1 < w5.heap.size := Nat.lt_of_lt_of_le l1r B5.out.size
        have d0 := (B5.out.cell (p := ⟨bs, k * 3, none⟩) hgl).trans s0
        have d1 := (B5.out.cell (p := ⟨bs, k * 3 + 1, none⟩) hgl).trans s1
        have d2 := (B5.out.cell (p := ⟨bs, k * 3 + 2, none⟩) hgl).trans s2
        have d3 := (B5.out.cell (p := ⟨w.heap.size, 3, none⟩) hnz).trans c3
        have d4 := (B5.out.cell (p := ⟨b1, o1 + k * 4, none⟩) l1r).trans p0
        have d5 := (B5.out.cell (p := ⟨b1, o1 + k * 4 + 1, none⟩) l1r).trans p1
        have d6 := (B5.out.cell (p := ⟨b1, o1 + k * 4 + 2, none⟩) l1r).trans p2
        have d7 := (B5.out.cell (p := ⟨b1, o1 + k * 4 + 3, none⟩) l1r).trans p3
        obtain ⟨t0, t1, t2⟩ := TB.out.cells
        have tl5 := TB.out.lt
        clear s0 s1 s2 c3 p0 p1 p2 p3
        cases r
        · have HE := Lib.hid (err_shape (N := ⟨c, h, x, ls⟩) HF.out HR.out (by
            have := fit_stop HL.out (s := s) (by rw [← HSE.out]; exact HRE.out)
            rw [HS.out] at this; exact this))
          have H0 : Hid (shN ⟨c, h, x, ls⟩ = []) := shN_no (by rw [HE.out]; decide)
          go_wp2_with fail
          go_ret2
          refine ⟨none, 0, 0, by rw [HE.out]; rfl, by rw [H0.out]; rfl, by rw [H0.out]; exact Rg.nil _ _ _, chain HBn.out B5.out, Nat.le_refl _, Nat.zero_le _⟩
        · obtain rfl : U = T := hU rfl
          have KOK : Hid (KnOk ⟨l, S, U, a⟩) := by
            rw [HTE.out]; exact kn_ok a (by rw [HSE.out]; exact end_right _ _ HSR.out (all_take HA.out k) FT.out) HLY.out HRE.out
          obtain ⟨e1, he1⟩ : ∃ e1, wI S l = e1 := ⟨_, rfl⟩
          obtain ⟨e2, he2⟩ : ∃ e2, pI S U l = e2 := ⟨_, rfl⟩
          have bw := KOK.out.w
          have bp := KOK.out.p
          rw [show Kn.w ⟨l, S, U, a⟩ = e1 from he1] at bw
          rw [show Kn.p ⟨l, S, U, a⟩ = e2 from he2] at bp
          obtain ⟨bw1, bw2⟩ := bw
          obtain ⟨bp1, bp2⟩ := bp
          have HE1 := Lib.hid he1; have HE2 := Lib.hid he2
          clear he1 he2 hU
          have V1 : Hid (IntKind.i64.wrap (a + e1) = a + e1) := IntWalk.i64_in _ (by omega)
          have V2 : Hid (IntKind.i64.wrap (p + e2) = p + e2) := IntWalk.i64_in _ (by omega)
          have HG0 : Hid (Below w5.heap.size w5 w5.drew) := below_drew w5
          go_wp2_with fail
          have tok2 : True := trivial
          go_region_held3 (fun w' => w'.cell? ⟨bs, k * 3, none⟩ = some (.int .i64 S.c) ∧ w'.cell? ⟨bs, k * 3 + 1, none⟩ = some (.int .i64 S.h) ∧ w'.cell? ⟨bs, k * 3 + 2, none⟩ = some (.int .i64 S.x) ∧ w'.cell? ⟨w.heap.size, 3, none⟩ = some (.slice (some ⟨b1, o1, none⟩) n cA) ∧ w'.cell? ⟨b1, o1 + k * 4, none⟩ = some (.int .i64 l.k) ∧ w'.cell? ⟨b1, o1 + k * 4 + 1, none⟩ = some (.int .i64 l.o) ∧ w'.cell? ⟨b1, o1 + k * 4 + 2, none⟩ = some (.int .i64 l.s) ∧ w'.cell? ⟨b1, o1 + k * 4 + 3, none⟩ = some (.int .i64 l.t))
            (first | exact ⟨g0, g1, g2, g3, g4, g5, g6, g7⟩ | go_keep)
            (first
              | ((have _t := tok2; clear tok2; go_at_call 58; (with_reducible refine (rweights_any S l U a e1 KOK.out HE1.out _).mono ?_); rintro e w6 ⟨rfl, hb6⟩
                  have HG1 := Lib.hid (HG0.out.trans (hb6.mono HG0.out.size))
                  have g0 := (HG1.out.cell (p := ⟨bs, k * 3, none⟩) gl5).trans d0
                  have g1 := (HG1.out.cell (p := ⟨bs, k * 3 + 1, none⟩) gl5).trans d1
                  have g2 := (HG1.out.cell (p := ⟨bs, k * 3 + 2, none⟩) gl5).trans d2
                  have g3 := (HG1.out.cell (p := ⟨w.heap.size, 3, none⟩) nz5).trans d3
                  have g4 := (HG1.out.cell (p := ⟨b1, o1 + k * 4, none⟩) lr5).trans d4
                  have g5 := (HG1.out.cell (p := ⟨b1, o1 + k * 4 + 1, none⟩) lr5).trans d5
                  have g6 := (HG1.out.cell (p := ⟨b1, o1 + k * 4 + 2, none⟩) lr5).trans d6
                  have g7 := (HG1.out.cell (p := ⟨b1, o1 + k * 4 + 3, none⟩) lr5).trans d7
                  clear hb6))
              | fail)
          rw [V1.out]
          have T6 := Lib.hid (TB.out.below HG1.out)
          have gl6 : bs < w6.heap.size := Nat.lt_of_lt_of_le gl5 HG1.out.size
          have nz6 : w.heap.size < w6.heap.size := Nat.lt_of_lt_of_le nz5 HG1.out.size
          have lr6 : b1 < w6.heap.size := Nat.lt_of_lt_of_le lr5 HG1.out.size
          clear t0 t1 t2 d0 d1 d2 d3 d4 d5 d6 d7
          obtain ⟨t0, t1, t2⟩ := T6.out.cells
          have tl6 := T6.out.lt
          have HJ0 : Hid (Below w6.heap.size w6 w6.drew) := below_drew w6
          go_wp2_with fail
          have tok3 : True := trivial
          go_region_held3 (fun w' => w'.cell? ⟨bs, k * 3, none⟩ = some (.int .i64 S.c) ∧ w'.cell? ⟨bs, k * 3 + 1, none⟩ = some (.int .i64 S.h) ∧ w'.cell? ⟨bs, k * 3 + 2, none⟩ = some (.int .i64 S.x) ∧ w'.cell? ⟨w.heap.size, 3, none⟩ = some (.slice (some ⟨b1, o1, none⟩) n cA) ∧ w'.cell? ⟨b1, o1 + k * 4, none⟩ = some (.int .i64 l.k) ∧ w'.cell? ⟨b1, o1 + k * 4 + 1, none⟩ = some (.int .i64 l.o) ∧ w'.cell? ⟨b1, o1 + k * 4 + 2, none⟩ = some (.int .i64 l.s) ∧ w'.cell? ⟨b1, o1 + k * 4 + 3, none⟩ = some (.int .i64 l.t) ∧ w'.cell? ⟨tb, 0, none⟩ = some (.int .i64 U.c) ∧ w'.cell? ⟨tb, 1, none⟩ = some (.int .i64 U.h) ∧ w'.cell? ⟨tb, 2, none⟩ = some (.int .i64 U.x))
            (first | exact ⟨j0, j1, j2, j3, j4, j5, j6, j7, i0, i1, i2⟩ | go_keep)
            (first
              | ((have _t := tok3; clear tok3; go_at_call 59; (with_reducible refine (rproducts_any S l U a e2 KOK.out HE2.out _).mono ?_); rintro e w7 ⟨rfl, hb7⟩
                  have HJ1 := Lib.hid (HJ0.out.trans (hb7.mono HJ0.out.size))
                  have j0 := (HJ1.out.cell (p := ⟨bs, k * 3, none⟩) gl6).trans g0
                  have j1 := (HJ1.out.cell (p := ⟨bs, k * 3 + 1, none⟩) gl6).trans g1
                  have j2 := (HJ1.out.cell (p := ⟨bs, k * 3 + 2, none⟩) gl6).trans g2
                  have j3 := (HJ1.out.cell (p := ⟨w.heap.size, 3, none⟩) nz6).trans g3
                  have j4 := (HJ1.out.cell (p := ⟨b1, o1 + k * 4, none⟩) lr6).trans g4
                  have j5 := (HJ1.out.cell (p := ⟨b1, o1 + k * 4 + 1, none⟩) lr6).trans g5
                  have j6 := (HJ1.out.cell (p := ⟨b1, o1 + k * 4 + 2, none⟩) lr6).trans g6
                  have j7 := (HJ1.out.cell (p := ⟨b1, o1 + k * 4 + 3, none⟩) lr6).trans g7
                  have i0 := (HJ1.out.cell (p := ⟨tb, 0, none⟩) tl6).trans t0
                  have i1 := (HJ1.out.cell (p := ⟨tb, 1, none⟩) tl6).trans t1
                  have i2 := (HJ1.out.cell (p := ⟨tb, 2, none⟩) tl6).trans t2
                  clear hb7))
              | fail)
          rw [V2.out]
          have T7 := Lib.hid (T6.out.below HJ1.out)
          have BJ := Lib.hid (chain (chain B5.out HG1.out) HJ1.out)
          have hOW := own_belowE HO.out BJ.out
          rw [← HM.out] at hOW
          have OW := Lib.hid hOW
          clear hOW
          have BW := Lib.hid (chain HBw.out BJ.out)
          have hBw7 : B ≤ w7.heap.size := by rw [HBB.out]; exact BW.out.size
          clear g0 g1 g2 g3 g4 g5 g6 g7 j0 j1 j2 j3 j4 j5 j6 j7 t0 t1 t2
          have hk60 : k ≤ 1000 := by omega
          have hmk : m = k + 1 := HM.out
          go_wp2_with (at_builtin; refine wpList_append_own _ rfl _ _ 29 rfl B 23 i0' (.agg #[.int .i64 0, .int .i64 0, .int .i64 0]) 3 24 Try.underlying29 hi hz0 hz1 hz2 rfl (by decide) _ m _ rfl (OW.out.alloc _) ⟨w7.heap.size, 0, none⟩ 1 1 (scells U) rfl rfl ?cA1 (scells_one U) ?cA3 ?cA4 ?cA5 ?_)
          case cA1 => exact (SB.new w7 U).news
          case cA3 => unfold maxLen; omega
          case cA4 => omega
          case cA5 => simp; omega
          intro v' w8 hown2 hgrow _
          have W1 : Hid (sumW s (ls.take (k + 1)) = a + e1) := by
            show _ = _
            rw [w_next HL.out, ← HSE.out, ← HAE.out, HE1.out]
          have P1 : Hid (sumP s (ls.take (k + 1)) = p + e2) := by
            show _ = _
            rw [p_next HL.out, ← HSE.out, ← HPE.out, ← HTE.out, HE2.out]
          have F1 := Lib.hid (fit_next (s := s) HL.out FT.out (by rw [← HSE.out]; exact HRE.out))
          have AT1 : Hid (RS w2 s ls B (k + 1) v' w8) := by
            refine ⟨?_, (BW.out.alloc BW.out.size _).grown hgrow (by simp; have := BW.out.size; omega) (fun q hqq => by have := (OW.out.lt _ hqq).1; rw [HBB.out] at this; exact this)⟩
            rw [sh_next HL.out, ← HSE.out, ← HTE.out, List.flatMap_append]
            simpa using hown2
          clear hown2 hgrow i0 i1 i2
          go_wp2_with fail
          go_roundw
          case rel => exact ⟨k + 1, by omega, by rw [W1.out], by rw [P1.out], by go_num, F1, AT1⟩
          case measure => simp [intOf]; omega
      · obtain ⟨w5, hw5⟩ : ∃ w5, w5 = ((w4.setCell ⟨wr.heap.size, 0, none⟩ (.int .i64 U.c)).setCell ⟨wr.heap.size, 1, none⟩ (.int .i64 U.h)).setCell ⟨wr.heap.size, 2, none⟩ (.int .i64 U.x) := ⟨_, rfl⟩
        obtain ⟨tb, htb⟩ : ∃ tb, tb = wr.heap.size := ⟨_, rfl⟩
        have TB : Hid (SB w5 tb U) := by rw [hw5, htb]; exact SBN.out.set3 U.c U.h U.x
        have B5 : Hid (Below wr.heap.size wr w5) := by rw [hw5]; exact below_set3 HC1.out (Nat.le_refl _) _ _ _
        rw [← hw5, ← htb]
        clear hw5 htb q0 q1 q2 q3 q4 q5 q6 q7 ne0 me0 ne1 me1 ne2 me2 HC0 HD0 HC1 SBN f0 f1 f2 y0 y1 y2
        have gl5 : bs < w5.heap.size := Nat.lt_of_lt_of_le hgl B5.out.size
        have nz5 : w.heap.size < w5.heap.size := Nat.lt_of_lt_of_le hnz B5.out.size
        have lr5 : b1 < w5.heap.size := Nat.lt_of_lt_of_le l1r B5.out.size
        have d0 := (B5.out.cell (p := ⟨bs, k * 3, none⟩) hgl).trans s0
        have d1 := (B5.out.cell (p := ⟨bs, k * 3 + 1, none⟩) hgl).trans s1
        have d2 := (B5.out.cell (p := ⟨bs, k * 3 + 2, none⟩) hgl).trans s2
        have d3 := (B5.out.cell (p := ⟨w.heap.size, 3, none⟩) hnz).trans c3
        have d4 := (B5.out.cell (p := ⟨b1, o1 + k * 4, none⟩) l1r).trans p0
        have d5 := (B5.out.cell (p := ⟨b1, o1 + k * 4 + 1, none⟩) l1r).trans p1
        have d6 := (B5.out.cell (p := ⟨b1, o1 + k * 4 + 2, none⟩) l1r).trans p2
        have d7 := (B5.out.cell (p := ⟨b1, o1 + k * 4 + 3, none⟩) l1r).trans p3
        obtain ⟨t0, t1, t2⟩ := TB.out.cells
        have tl5 := TB.out.lt
        clear s0 s1 s2 c3 p0 p1 p2 p3
        cases r
        · have HE := Lib.hid (err_shape (N := ⟨c, h, x, ls⟩) HF.out HR.out (by
            have := fit_stop HL.out (s := s) (by rw [← HSE.out]; exact HRE.out)
            rw [HS.out] at this; exact this))
          have H0 : Hid (shN ⟨c, h, x, ls⟩ = []) := shN_no (by rw [HE.out]; decide)
          go_wp2_with fail
          go_ret2
          refine ⟨none, 0, 0, by rw [HE.out]; rfl, by rw [H0.out]; rfl, by rw [H0.out]; exact Rg.nil _ _ _, chain HBn.out B5.out, Nat.le_refl _, Nat.zero_le _⟩
        · obtain rfl : U = T := hU rfl
          have KOK : Hid (KnOk ⟨l, S, U, a⟩) := by
            rw [HTE.out]; exact kn_ok a (by rw [HSE.out]; exact end_right _ _ HSR.out (all_take HA.out k) FT.out) HLY.out HRE.out
          obtain ⟨e1, he1⟩ : ∃ e1, wI S l = e1 := ⟨_, rfl⟩
          obtain ⟨e2, he2⟩ : ∃ e2, pI S U l = e2 := ⟨_, rfl⟩
          have bw := KOK.out.w
          have bp := KOK.out.p
          rw [show Kn.w ⟨l, S, U, a⟩ = e1 from he1] at bw
          rw [show Kn.p ⟨l, S, U, a⟩ = e2 from he2] at bp
          obtain ⟨bw1, bw2⟩ := bw
          obtain ⟨bp1, bp2⟩ := bp
          have HE1 := Lib.hid he1; have HE2 := Lib.hid he2
          clear he1 he2 hU
          have V1 : Hid (IntKind.i64.wrap (a + e1) = a + e1) := IntWalk.i64_in _ (by omega)
          have V2 : Hid (IntKind.i64.wrap (p + e2) = p + e2) := IntWalk.i64_in _ (by omega)
          have HG0 : Hid (Below w5.heap.size w5 w5.drew) := below_drew w5
          go_wp2_with fail
          have tok2 : True := trivial
          go_region_held3 (fun w' => w'.cell? ⟨bs, k * 3, none⟩ = some (.int .i64 S.c) ∧ w'.cell? ⟨bs, k * 3 + 1, none⟩ = some (.int .i64 S.h) ∧ w'.cell? ⟨bs, k * 3 + 2, none⟩ = some (.int .i64 S.x) ∧ w'.cell? ⟨w.heap.size, 3, none⟩ = some (.slice (some ⟨b1, o1, none⟩) n cA) ∧ w'.cell? ⟨b1, o1 + k * 4, none⟩ = some (.int .i64 l.k) ∧ w'.cell? ⟨b1, o1 + k * 4 + 1, none⟩ = some (.int .i64 l.o) ∧ w'.cell? ⟨b1, o1 + k * 4 + 2, none⟩ = some (.int .i64 l.s) ∧ w'.cell? ⟨b1, o1 + k * 4 + 3, none⟩ = some (.int .i64 l.t))
            (first | exact ⟨g0, g1, g2, g3, g4, g5, g6, g7⟩ | go_keep)
            (first
              | ((have _t := tok2; clear tok2; go_at_call 58; (with_reducible refine (rweights_any S l U a e1 KOK.out HE1.out _).mono ?_); rintro e w6 ⟨rfl, hb6⟩
                  have HG1 := Lib.hid (HG0.out.trans (hb6.mono HG0.out.size))
                  have g0 := (HG1.out.cell (p := ⟨bs, k * 3, none⟩) gl5).trans d0
                  have g1 := (HG1.out.cell (p := ⟨bs, k * 3 + 1, none⟩) gl5).trans d1
                  have g2 := (HG1.out.cell (p := ⟨bs, k * 3 + 2, none⟩) gl5).trans d2
                  have g3 := (HG1.out.cell (p := ⟨w.heap.size, 3, none⟩) nz5).trans d3
                  have g4 := (HG1.out.cell (p := ⟨b1, o1 + k * 4, none⟩) lr5).trans d4
                  have g5 := (HG1.out.cell (p := ⟨b1, o1 + k * 4 + 1, none⟩) lr5).trans d5
                  have g6 := (HG1.out.cell (p := ⟨b1, o1 + k * 4 + 2, none⟩) lr5).trans d6
                  have g7 := (HG1.out.cell (p := ⟨b1, o1 + k * 4 + 3, none⟩) lr5).trans d7
                  clear hb6))
              | fail)
          rw [V1.out]
          have T6 := Lib.hid (TB.out.below HG1.out)
          have gl6 : bs < w6.heap.size := Nat.lt_of_lt_of_le gl5 HG1.out.size
          have nz6 : w.heap.size < w6.heap.size := Nat.lt_of_lt_of_le nz5 HG1.out.size
          have lr6 : b1 < w6.heap.size := Nat.lt_of_lt_of_le lr5 HG1.out.size
          clear t0 t1 t2 d0 d1 d2 d3 d4 d5 d6 d7
          obtain ⟨t0, t1, t2⟩ := T6.out.cells
          have tl6 := T6.out.lt
          have HJ0 : Hid (Below w6.heap.size w6 w6.drew) := below_drew w6
          go_wp2_with fail
          have tok3 : True := trivial
          go_region_held3 (fun w' => w'.cell? ⟨bs, k * 3, none⟩ = some (.int .i64 S.c) ∧ w'.cell? ⟨bs, k * 3 + 1, none⟩ = some (.int .i64 S.h) ∧ w'.cell? ⟨bs, k * 3 + 2, none⟩ = some (.int .i64 S.x) ∧ w'.cell? ⟨w.heap.size, 3, none⟩ = some (.slice (some ⟨b1, o1, none⟩) n cA) ∧ w'.cell? ⟨b1, o1 + k * 4, none⟩ = some (.int .i64 l.k) ∧ w'.cell? ⟨b1, o1 + k * 4 + 1, none⟩ = some (.int .i64 l.o) ∧ w'.cell? ⟨b1, o1 + k * 4 + 2, none⟩ = some (.int .i64 l.s) ∧ w'.cell? ⟨b1, o1 + k * 4 + 3, none⟩ = some (.int .i64 l.t) ∧ w'.cell? ⟨tb, 0, none⟩ = some (.int .i64 U.c) ∧ w'.cell? ⟨tb, 1, none⟩ = some (.int .i64 U.h) ∧ w'.cell? ⟨tb, 2, none⟩ = some (.int .i64 U.x))
            (first | exact ⟨j0, j1, j2, j3, j4, j5, j6, j7, i0, i1, i2⟩ | go_keep)
            (first
              | ((have _t := tok3; clear tok3; go_at_call 59; (with_reducible refine (rproducts_any S l U a e2 KOK.out HE2.out _).mono ?_); rintro e w7 ⟨rfl, hb7⟩
                  have HJ1 := Lib.hid (HJ0.out.trans (hb7.mono HJ0.out.size))
                  have j0 := (HJ1.out.cell (p := ⟨bs, k * 3, none⟩) gl6).trans g0
                  have j1 := (HJ1.out.cell (p := ⟨bs, k * 3 + 1, none⟩) gl6).trans g1
                  have j2 := (HJ1.out.cell (p := ⟨bs, k * 3 + 2, none⟩) gl6).trans g2
                  have j3 := (HJ1.out.cell (p := ⟨w.heap.size, 3, none⟩) nz6).trans g3
                  have j4 := (HJ1.out.cell (p := ⟨b1, o1 + k * 4, none⟩) lr6).trans g4
                  have j5 := (HJ1.out.cell (p := ⟨b1, o1 + k * 4 + 1, none⟩) lr6).trans g5
                  have j6 := (HJ1.out.cell (p := ⟨b1, o1 + k * 4 + 2, none⟩) lr6).trans g6
                  have j7 := (HJ1.out.cell (p := ⟨b1, o1 + k * 4 + 3, none⟩) lr6).trans g7
                  have i0 := (HJ1.out.cell (p := ⟨tb, 0, none⟩) tl6).trans t0
                  have i1 := (HJ1.out.cell (p := ⟨tb, 1, none⟩) tl6).trans t1
                  have i2 := (HJ1.out.cell (p := ⟨tb, 2, none⟩) tl6).trans t2
                  clear hb7))
              | fail)
          rw [V2.out]
          have T7 := Lib.hid (T6.out.below HJ1.out)
          have BJ := Lib.hid (chain (chain B5.out HG1.out) HJ1.out)
          have hOW := own_belowE HO.out BJ.out
          rw [← HM.out] at hOW
          have OW := Lib.hid hOW
          clear hOW
          have BW := Lib.hid (chain HBw.out BJ.out)
          have hBw7 : B ≤ w7.heap.size := by rw [HBB.out]; exact BW.out.size
          clear g0 g1 g2 g3 g4 g5 g6 g7 j0 j1 j2 j3 j4 j5 j6 j7 t0 t1 t2
          have hk60 : k ≤ 1000 := by omega
          have hmk : m = k + 1 := HM.out
          go_wp2_with (at_builtin; refine wpList_append_own _ rfl _ _ 29 rfl B 23 i0' (.agg #[.int .i64 0, .int .i64 0, .int .i64 0]) 3 24 Try.underlying29 hi hz0 hz1 hz2 rfl (by decide) _ m _ rfl (OW.out.alloc _) ⟨w7.heap.size, 0, none⟩ 1 1 (scells U) rfl rfl ?c1 (scells_one U) ?c3 ?c4 ?c5 ?_)
          case c1 => exact (SB.new w7 U).news
          case c3 => unfold maxLen; omega
          case c4 => omega
          case c5 => simp; omega
          intro v' w8 hown2 hgrow _
          have W1 : Hid (sumW s (ls.take (k + 1)) = a + e1) := by
            show _ = _
            rw [w_next HL.out, ← HSE.out, ← HAE.out, HE1.out]
          have P1 : Hid (sumP s (ls.take (k + 1)) = p + e2) := by
            show _ = _
            rw [p_next HL.out, ← HSE.out, ← HPE.out, ← HTE.out, HE2.out]
          have F1 := Lib.hid (fit_next (s := s) HL.out FT.out (by rw [← HSE.out]; exact HRE.out))
          have AT1 : Hid (RS w2 s ls B (k + 1) v' w8) := by
            refine ⟨?_, (BW.out.alloc BW.out.size _).grown hgrow (by simp; have := BW.out.size; omega) (fun q hqq => by have := (OW.out.lt _ hqq).1; rw [HBB.out] at this; exact this)⟩
            rw [sh_next HL.out, ← HSE.out, ← HTE.out, List.flatMap_append]
            simpa using hown2
          clear hown2 hgrow i0 i1 i2
          go_wp2_with fail
          go_roundw
          case rel => exact ⟨k + 1, by omega, by rw [W1.out], by rw [P1.out], by go_num, F1, AT1⟩
          case measure => simp [intOf]; omega
    · obtain rfl : k = n := by omega
      have et : ls.take k = ls := by rw [LX.out, List.take_length]
      have FT2 := FT.out
      rw [et] at FT2 hO
      rw [et]
      obtain ⟨A2, c2, hv, hd1, hd2, hd3, hd4⟩ := own_cap scells_len (by decide) hO
      subst hv
      have RK := Lib.hid hd2; have D1 := Lib.hid hd1; have D3 := Lib.hid hd3; have D4 := Lib.hid hd4; have HB := Lib.hid hBn
      have HFT : Hid (fitL (⟨c, h, x, ls⟩ : Nt).s (⟨c, h, x, ls⟩ : Nt).ls = true) := by have := FT2; rw [HS.out] at this; exact this
      have HXN : Hid (sumW s ls = sumW (⟨c, h, x, ls⟩ : Nt).s (⟨c, h, x, ls⟩ : Nt).ls) := by rw [HS.out]; exact rfl
      have HYN : Hid (sumP s ls = sumP (⟨c, h, x, ls⟩ : Nt).s (⟨c, h, x, ls⟩ : Nt).ls) := by rw [HS.out]; exact rfl
      clear hO hBw hBn hd1 hd2 hd3 hd4 FT2 AT FT et
      obtain ⟨X, hX⟩ : ∃ X, X = sumW s ls := ⟨_, rfl⟩
      obtain ⟨Y, hY⟩ : ∃ Y, Y = sumP s ls := ⟨_, rfl⟩
      rw [← hX, ← hY]
      rw [← hX] at HXN
      rw [← hY] at HYN
      clear hX hY
      by_cases hX5 : X ≤ 512
      · by_cases hY5 : Y ≤ 512
        · have HE0 := Lib.hid (err_ok (N := ⟨c, h, x, ls⟩) HF.out HR.out HFT.out ⟨by rw [← HXN.out]; exact hX5, by rw [← HYN.out]; exact hY5⟩)
          have hsn : shN ⟨c, h, x, ls⟩ = shL s ls := by rw [shN_ok HE0.out, HS.out]
          have HSN := Lib.hid hsn
          clear hsn
          go_wp2_with fail
          go_ret2
          exact ⟨A2, c2, k + 1, by rw [HE0.out]; rfl, by rw [HSN.out]; exact D1.out, by rw [HSN.out]; exact RK.out, HB.out, D3.out, D4.out⟩
        · have HE5 := Lib.hid (err_full (N := ⟨c, h, x, ls⟩) HF.out HR.out HFT.out (by rw [← HXN.out, ← HYN.out]; omega))
          have H0 : Hid (shN ⟨c, h, x, ls⟩ = []) := shN_no (by rw [HE5.out]; decide)
          go_wp2_with fail
          go_ret2
          exact ⟨none, 0, 0, by rw [HE5.out]; rfl, by rw [H0.out]; rfl, by rw [H0.out]; exact Rg.nil _ _ _, HB.out, Nat.le_refl _, Nat.zero_le _⟩
      · have HE5 := Lib.hid (err_full (N := ⟨c, h, x, ls⟩) HF.out HR.out HFT.out (by rw [← HXN.out]; omega))
        have H0 : Hid (shN ⟨c, h, x, ls⟩ = []) := shN_no (by rw [HE5.out]; decide)
        go_wp2_with fail
        go_ret2
        exact ⟨none, 0, 0, by rw [HE5.out]; rfl, by rw [H0.out]; rfl, by rw [H0.out]; exact Rg.nil _ _ _, HB.out, Nat.le_refl _, Nat.zero_le _⟩

set_option maxHeartbeats 1000000 in
theorem rshapes_any (c h x : Int) (A : Option Addr) (cA n : Nat) (ls : List Ly) (w : World) (hx : Rl w A ls) (ln : n = ls.length) (hn : n ≤ 1000) :
    Calls Try.prog 15 #[.agg #[.int .i64 c, .int .i64 h, .int .i64 x, .slice A n cA]] w (ShapesTo ⟨c, h, x, ls⟩ w) := by
  cases hf : formB ⟨c, h, x, ls⟩
  · have HE : Hid (errN ⟨c, h, x, ls⟩ = 12) := err_form hf
    have H0 : Hid (shN ⟨c, h, x, ls⟩ = []) := shN_no (by rw [HE.out]; decide)
    have HX := Lib.hid hx; have LX := Lib.hid ln; have HF := Lib.hid hf
    clear hx ln hf
    go_enter Try.func15, Try.ntmps15
    go_wp2_with fail
    refine (rform_any c h x A cA n ls _ (HX.out.below ((Below.refl _ w).alloc (Nat.le_refl _) _)) LX.out hn).mono ?_
    rintro e w1 ⟨rfl, hb⟩
    rw [HF.out]
    have B1 := Lib.hid (chain ((Below.refl w.heap.size w).alloc (Nat.le_refl _) _) hb)
    clear hb
    go_wp2_with fail
    go_ret2
    exact ⟨none, 0, 0, by rw [HE.out]; rfl, by rw [H0.out]; rfl, by rw [H0.out]; exact Rg.nil _ _ _, B1.out, Nat.le_refl _, Nat.zero_le _⟩
  · cases hr : rightB c h x
    · have HE : Hid (errN ⟨c, h, x, ls⟩ = 1) := err_arg hf hr
      have H0 : Hid (shN ⟨c, h, x, ls⟩ = []) := shN_no (by rw [HE.out]; decide)
      have HX := Lib.hid hx; have LX := Lib.hid ln; have HF := Lib.hid hf; have HR := Lib.hid hr
      clear hx ln hf hr
      go_enter Try.func15, Try.ntmps15
      go_wp2_with fail
      refine (rform_any c h x A cA n ls _ (HX.out.below ((Below.refl _ w).alloc (Nat.le_refl _) _)) LX.out hn).mono ?_
      rintro e w1 ⟨rfl, hb⟩
      rw [HF.out]
      have B1 := Lib.hid (chain ((Below.refl w.heap.size w).alloc (Nat.le_refl _) _) hb)
      have N1 := Lib.hid ((NB.new w c h x (.slice A n cA)).below hb)
      obtain ⟨c0, c1, c2, c3⟩ := N1.out.cells
      clear hb
      go_wp2_with fail
      refine (rright_no c h x _ HR.out).mono ?_
      rintro e w2 ⟨rfl, hb⟩
      have B2 := Lib.hid (chain B1.out hb)
      clear hb
      go_wp2_with fail
      go_ret2
      exact ⟨none, 0, 0, by rw [HE.out]; rfl, by rw [H0.out]; rfl, by rw [H0.out]; exact Rg.nil _ _ _, B2.out, Nat.le_refl _, Nat.zero_le _⟩
    · exact rshapes_rest c h x A cA n ls w hx ln hn hf hr

end Go.Proofs.Ytnfmpladdfgadaa
