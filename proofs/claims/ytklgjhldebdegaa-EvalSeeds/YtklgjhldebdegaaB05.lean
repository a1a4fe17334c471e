/-
  What the laws of this seat stand on, part 5.
-/
import Derived.Test.YtklgjhldebdegaaB04
import Derived.Laws.StructEq
namespace Go.Proofs.Ytklgjhldebdegaa
open Go.RowKit

theorem sh_next {s : Sh} {ls : List Ly} {k : Nat} {l : Ly} (h : ls[k]? = some l) : shL s (ls.take (k + 1)) = shL s (ls.take k) ++ [outS (endS s (ls.take k)) l] := by
  rw [take_get h, sh_kn _ s 0, sh_kn _ s 0, kn_app]; simp [knL]
theorem sh_last {s : Sh} {ls : List Ly} {k : Nat} (h : k ≤ ls.length) : (shL s (ls.take k))[k]? = some (endS s (ls.take k)) := by
  have := sh_get (ls.take k) s k (by rw [List.length_take]; omega)
  rwa [List.take_take, Nat.min_self] at this
/-- A row of one's own that is no empty one lies in a block of its own. -/
theorem own_at {α : Type} {f : α → List Value} {m : Nat} (hf : ∀ x, (f x).length = m) (hm : 0 < m) {w : World} {B e n : Nat} {v : Value} {xs : List α} (h : w.ownsRow B e m v n (xs.flatMap f)) (h0 : 0 < n) :
    ∃ g c, v = .slice (some ⟨g, 0, none⟩) n c ∧ n = xs.length ∧ B ≤ g ∧ g < w.heap.size ∧ n ≤ c ∧ c ≤ maxLen ∧ ∀ j u, (xs.flatMap f)[j]? = some u → w.cell? ⟨g, 0 + j, none⟩ = some u := by
  obtain ⟨A, c, hv, hn, hR, h1, h2⟩ := own_cap hf hm h
  obtain ⟨b, off, hA, hlt, hc⟩ := hR (by omega)
  rcases h.2 with ⟨hv2, h3⟩ | ⟨g, cp, cur, hv2, hB, _, _, _, _, _⟩
  · omega
  · rw [hv2] at hv
    injection hv with z1 z2 z3
    rw [hA] at z1
    injection z1 with z1
    injection z1 with z4 z5
    subst z4 z5
    exact ⟨g, c, by rw [hv2, z3], hn, hB, hlt, h1, h2, hc⟩

def RS (w1 : World) (s : Sh) (ls : List Ly) (B k : Nat) (v : Value) (wr : World) : Prop :=
  wr.ownsRow B 23 3 v (k + 1) ((shL s (ls.take k)).flatMap scells) ∧ Below w1.heap.size w1 wr

set_option maxHeartbeats 8000000 in
set_option maxRecDepth 100000 in
theorem rshapes_rest (c h x : Int) (A : Option Addr) (cA n : Nat) (ls : List Ly) (w : World) (hx : Rl w A ls) (ln : n = ls.length) (hn : n ≤ 1000) (hf : formB ⟨c, h, x, ls⟩ = true) (hr : rightB c h x = true) :
    Calls Try.prog 26 #[.agg #[.int .i64 c, .int .i64 h, .int .i64 x, .slice A n cA]] w (ShapesTo ⟨c, h, x, ls⟩ w) := by
  obtain ⟨i0', hi, hz0, hz1, hz2⟩ := info_parts Try.info23
  have HX := Lib.hid hx; have LX := Lib.hid ln; have HF := Lib.hid hf; have HR := Lib.hid hr
  clear hx ln hf hr
  go_enter Try.func26, Try.ntmps26
  go_wp2_with fail
  refine (rform_any c h x A cA n ls _ (HX.out.below ((Below.refl _ w).alloc (Nat.le_refl _) _)) LX.out hn).mono ?_
  rintro e w1 ⟨rfl, hb⟩
  rw [HF.out]
  have B1 := Lib.hid (chain ((Below.refl w.heap.size w).alloc (Nat.le_refl _) _) hb)
  have N1 := Lib.hid ((NB.new w c h x (.slice A n cA)).below hb)
  obtain ⟨c0, c1, c2, c3⟩ := N1.out.cells
  clear hb
  go_wp2_with fail
  refine (rright_yes c h x _ HR.out).mono ?_
  rintro e w2 ⟨rfl, hb⟩
  have B2 := Lib.hid (chain B1.out hb)
  have N2 := Lib.hid (N1.out.below hb)
  clear hb B1 N1 c0 c1 c2 c3
  obtain ⟨c0, c1, c2, c3⟩ := N2.out.cells
  obtain ⟨s, HS⟩ : ∃ s : Sh, Hid (s = ⟨c, h, x⟩) := ⟨_, rfl⟩
  obtain ⟨B, hB⟩ : ∃ B, B = w2.heap.size := ⟨_, rfl⟩
  obtain ⟨wX, hwX⟩ : ∃ wX, wX = w2.alloc (.cells #[.int .i64 c, .int .i64 h, .int .i64 x] 23) := ⟨_, rfl⟩
  have AT0 : Hid (RS w2 s ls B 0 (.slice (some ⟨B, 0, none⟩) 1 1) wX) := by
    rw [hwX, hB, HS.out]
    exact ⟨⟨rfl, .inr ⟨w2.heap.size, 1, #[.int .i64 c, .int .i64 h, .int .i64 x], rfl, Nat.le_refl _, heap_alloc_new w2 _, Nat.le_refl _, by decide, rfl, rfl⟩⟩, (Below.refl _ w2).alloc (Nat.le_refl _) _⟩
  have HA : Hid (ls.all lyB = true) := (form_parts HF.out).2.2
  have HSR : Hid (s.r = true) := by rw [HS.out]; exact HR.out
  have hwB : w.heap.size < B := by rw [hB]; exact N2.out.lt
  have HBB := Lib.hid hB
  go_wp2_with fail
  rw [← hwX, ← hB]
  clear hwX hB c0 c1 c2 c3
  go_loopw [4, 5, 6, 7] (fun v a p i wr => ∃ k : Nat, k ≤ n ∧ a = .int .i64 (sumW s (ls.take k)) ∧ p = .int .i64 (sumP s (ls.take k)) ∧ i = .int .i64 k ∧ Hid (fitL s (ls.take k) = true) ∧ Hid (RS w2 s ls B k v wr)) (fun _ _ _ i _ => n - (intOf i).toNat)
  case atStart => exact ⟨0, Nat.zero_le _, rfl, rfl, rfl, rfl, AT0⟩
  case round =>
    obtain ⟨k, hk, rfl, rfl, rfl, FT, AT⟩ := hrel
    obtain ⟨hO, hBw⟩ := id AT.out
    have hBn := chain B2.out hBw
    have N3 := Lib.hid (N2.out.below hBw)
    obtain ⟨c0, c1, c2, c3⟩ := N3.out.cells
    by_cases hlt : k < n
    · have hkl : k < ls.length := by rw [← LX.out]; exact hlt
      obtain ⟨b1, o1, rfl, l1, q⟩ := HX.out (by omega)
      obtain ⟨l, hle⟩ : ∃ l, l = ls.getD k Ly.z := ⟨_, rfl⟩
      have hq := (q k hkl).below hBn l1
      rw [← hle] at hq
      have HL : Hid (ls[k]? = some l) := by show _ = _; rw [hle]; exact get_ly hkl
      have hly : lyB l = true := List.all_eq_true.1 HA.out l (List.mem_of_getElem? HL.out)
      have HLY := Lib.hid hly
      obtain ⟨p0, p1, p2, p3⟩ := hq
      have bd := sum_bd HSR.out (all_take HA.out k) FT.out (by rw [List.length_take]; omega)
      obtain ⟨S, hSe⟩ : ∃ S, S = endS s (ls.take k) := ⟨_, rfl⟩
      have hgs := sh_last (s := s) (ls := ls) (k := k) (by omega)
      rw [← hSe] at hgs
      obtain ⟨bs, cs, rfl, hkn, hgB, hgl, hk1, hk2, hcell⟩ := own_at scells_len (by decide) hO (by omega)
      obtain ⟨s0, s1, s2⟩ := sh_at hcell hgs
      simp only [Nat.zero_add] at s0 s1 s2
      obtain ⟨a, hae⟩ : ∃ a, a = sumW s (ls.take k) := ⟨_, rfl⟩
      obtain ⟨p, hpe⟩ : ∃ p, p = sumP s (ls.take k) := ⟨_, rfl⟩
      rw [← hae, ← hpe] at bd
      rw [← hae, ← hpe]
      obtain ⟨bd1, bd2, bd3, bd4⟩ := bd
      have HSE := Lib.hid hSe; have HAE := Lib.hid hae; have HPE := Lib.hid hpe
      have HO := Lib.hid hO; have HBw := Lib.hid hBw; have HBn := Lib.hid hBn
      have hnz : w.heap.size < wr.heap.size := N3.out.lt
      have l1r : b1 < wr.heap.size := Nat.lt_of_lt_of_le l1 hBn.size
      have HCS := Lib.hid hk2
      have HCS2 := Lib.hid hk1
      obtain ⟨m, hm⟩ : ∃ m, m = k + 1 := ⟨_, rfl⟩
      rw [← hm] at hk1 hO ⊢
      have km : k < m := by omega
      have ki : (k : Int) < (m : Int) := by omega
      have kn : (k : Int) < (n : Int) := by omega
      have ka : (0 : Int) ≤ (k : Int) := by omega
      have HM := Lib.hid hm
      clear hm
      clear q hle hSe hae hpe hO hBw hBn hly AT hcell hgs hkn hk1 hk2 c0 c1 c2
      go_wp2_with fail
      obtain ⟨r, hre⟩ : ∃ r, okS S l = r := ⟨_, rfl⟩
      obtain ⟨T, hTe⟩ : ∃ T, T = outS S l := ⟨_, rfl⟩
      have HRE := Lib.hid hre; have HTE := Lib.hid hTe
      clear hre hTe
      have HC0 : Hid (Below wr.heap.size wr wr.drew) := below_drew wr
      have HD0 : Hid (Below wr.heap.size wr ((wr.alloc (.cells #[.int .i64 0, .int .i64 0, .int .i64 0] 23)).drew)) := ((Below.refl _ wr).alloc (Nat.le_refl _) _).drew
      have tok1 : True := trivial
      go_region_held3 (fun w' => w'.cell? ⟨bs, k * 3, none⟩ = some (.int .i64 S.c) ∧ w'.cell? ⟨bs, k * 3 + 1, none⟩ = some (.int .i64 S.h) ∧ w'.cell? ⟨bs, k * 3 + 2, none⟩ = some (.int .i64 S.x) ∧ w'.cell? ⟨w.heap.size, 3, none⟩ = some (.slice (some ⟨b1, o1, none⟩) n cA) ∧ w'.cell? ⟨b1, o1 + k * 4, none⟩ = some (.int .i64 l.k) ∧ w'.cell? ⟨b1, o1 + k * 4 + 1, none⟩ = some (.int .i64 l.o) ∧ w'.cell? ⟨b1, o1 + k * 4 + 2, none⟩ = some (.int .i64 l.s) ∧ w'.cell? ⟨b1, o1 + k * 4 + 3, none⟩ = some (.int .i64 l.t))
        (first | exact ⟨q0, q1, q2, q3, q4, q5, q6, q7⟩ | go_keep)
        (first
          | ((have _t := tok1; clear tok1; go_at_call 42; (with_reducible refine (rout_any S l T r HLY.out HRE.out (fun _ => HTE.out) wr.drew).mono ?_); rintro e w4 ⟨U, hU, rfl, hb4⟩
              have HC1 := Lib.hid (HC0.out.trans (hb4.mono HC0.out.size))
              have hsz := HC1.out.size
              have ne0 : ¬ bs = w4.heap.size := by omega
              have me0 : ¬ w4.heap.size = bs := by omega
              have ne1 : ¬ w.heap.size = w4.heap.size := by omega
              have me1 : ¬ w4.heap.size = w.heap.size := by omega
              have ne2 : ¬ b1 = w4.heap.size := by omega
              have me2 : ¬ w4.heap.size = b1 := by omega
              clear hsz
              have q0 := (HC1.out.cell (p := ⟨bs, k * 3, none⟩) hgl).trans s0
              have q1 := (HC1.out.cell (p := ⟨bs, k * 3 + 1, none⟩) hgl).trans s1
              have q2 := (HC1.out.cell (p := ⟨bs, k * 3 + 2, none⟩) hgl).trans s2
              have q3 := (HC1.out.cell (p := ⟨w.heap.size, 3, none⟩) hnz).trans c3
              have q4 := (HC1.out.cell (p := ⟨b1, o1 + k * 4, none⟩) l1r).trans p0
              have q5 := (HC1.out.cell (p := ⟨b1, o1 + k * 4 + 1, none⟩) l1r).trans p1
              have q6 := (HC1.out.cell (p := ⟨b1, o1 + k * 4 + 2, none⟩) l1r).trans p2
              have q7 := (HC1.out.cell (p := ⟨b1, o1 + k * 4 + 3, none⟩) l1r).trans p3
              clear hb4))
          | ((have _t := tok1; clear tok1; go_at_call 42; (with_reducible refine (rout_any S l T r HLY.out HRE.out (fun _ => HTE.out) (wr.alloc _).drew).mono ?_); rintro e w4 ⟨U, hU, rfl, hb4⟩
              have HC1 := Lib.hid (HD0.out.trans (hb4.mono HD0.out.size))
              have SBn : SB w4 wr.heap.size ⟨0, 0, 0⟩ := (hb4.block wr.heap.size (by simp)).trans (SB.new wr ⟨0, 0, 0⟩)
              obtain ⟨y0, y1, y2⟩ := SBn.cells
              have f0 := SBn.frozen 0
              have f1 := SBn.frozen 1
              have f2 := SBn.frozen 2
              have SBN := Lib.hid SBn
              clear SBn
              have ne0 : ¬ bs = wr.heap.size := by omega
              have me0 : ¬ wr.heap.size = bs := by omega
              have ne1 : ¬ w.heap.size = wr.heap.size := by omega
              have me1 : ¬ wr.heap.size = w.heap.size := by omega
              have ne2 : ¬ b1 = wr.heap.size := by omega
              have me2 : ¬ wr.heap.size = b1 := by omega
              have q0 := (HC1.out.cell (p := ⟨bs, k * 3, none⟩) hgl).trans s0
              have q1 := (HC1.out.cell (p := ⟨bs, k * 3 + 1, none⟩) hgl).trans s1
              have q2 := (HC1.out.cell (p := ⟨bs, k * 3 + 2, none⟩) hgl).trans s2
              have q3 := (HC1.out.cell (p := ⟨w.heap.size, 3, none⟩) hnz).trans c3
              have q4 := (HC1.out.cell (p := ⟨b1, o1 + k * 4, none⟩) l1r).trans p0
              have q5 := (HC1.out.cell (p := ⟨b1, o1 + k * 4 + 1, none⟩) l1r).trans p1
              have q6 := (HC1.out.cell (p := ⟨b1, o1 + k * 4 + 2, none⟩) l1r).trans p2
              have q7 := (HC1.out.cell (p := ⟨b1, o1 + k * 4 + 3, none⟩) l1r).trans p3
              clear hb4))
          | fail)
      · obtain ⟨w5, hw5⟩ : ∃ w5, w5 = w4.alloc (.cells #[.int .i64 U.c, .int .i64 U.h, .int .i64 U.x] 23) := ⟨_, rfl⟩
        obtain ⟨tb, htb⟩ : ∃ tb, tb = w4.heap.size := ⟨_, rfl⟩
        have TB : Hid (SB w5 tb U) := by rw [hw5, htb]; exact SB.new w4 U
        have B5 : Hid (Below wr.heap.size wr w5) := by rw [hw5]; exact chain_alloc HC1.out _
        rw [← hw5, ← htb]
        clear hw5 htb q0 q1 q2 q3 q4 q5 q6 q7 ne0 me0 ne1 me1 ne2 me2 HC0 HD0 HC1
        have gl5 : bs < w5.heap.size := Nat.lt_of_lt_of_le hgl B5.out.size
        have nz5 : w.heap.size < w5.heap.size := Nat.lt_of_lt_of_le hnz B5.out.size
        have lr5 : b1 < w5.heap.size := Nat.lt_of_lt_of_le l1r B5.out.size
        have d0 := (B5.out.cell (p := ⟨bs, k * 3, none⟩) hgl).trans s0
        have d1 := (B5.out.cell (p := ⟨bs, k * 3 + 1, none⟩) hgl).trans s1
        have d2 := (B5.out.cell (p := ⟨bs, k * 3 + 2, none⟩) hgl).trans s2
        have d3 := (B5.out.cell (p := ⟨w.heap.size, 3, none⟩) hnz).trans c3
        have d4 := (B5.out.cell (p := ⟨b1, o1 + k * 4, none⟩) l1r).trans p0
        have d5 := (B5.out.cell (p := ⟨b1, o1 + k * 4 + 1, none⟩) l1r).trans p1
        have d6 := (B5.out.cell (p := ⟨b1, o1 + k * 4 + 2, none⟩) l1r).trans p2
        have d7 := (B5.out.cell (p := ⟨b1, o1 + k * 4 + 3, none⟩) l1r).trans p3
        obtain ⟨t0, t1, t2⟩ := TB.out.cells
        have tl5 := TB.out.lt
        clear s0 s1 s2 c3 p0 p1 p2 p3
        cases r
        · have HE := Lib.hid (err_shape (N := ⟨c, h, x, ls⟩) HF.out HR.out (by
            have := fit_stop HL.out (s := s) (by rw [← HSE.out]; exact HRE.out)
            rw [HS.out] at this; exact this))
          have H0 : Hid (shN ⟨c, h, x, ls⟩ = []) := shN_no (by rw [HE.out]; decide)
          go_wp2_with fail
          go_ret2
          refine ⟨none, 0, 0, by rw [HE.out]; rfl, by rw [H0.out]; rfl, by rw [H0.out]; exact Rg.nil _ _ _, chain HBn.out B5.out, Nat.le_refl _, Nat.zero_le _⟩
        · obtain rfl : U = T := hU rfl
          have KOK : Hid (KnOk ⟨l, S, U, a⟩) := by
            rw [HTE.out]; exact kn_ok a (by rw [HSE.out]; exact end_right _ _ HSR.out (all_take HA.out k) FT.out) HLY.out HRE.out
          obtain ⟨e1, he1⟩ : ∃ e1, wI S l = e1 := ⟨_, rfl⟩
          obtain ⟨e2, he2⟩ : ∃ e2, pI S U l = e2 := ⟨_, rfl⟩
          have bw := KOK.out.w
          have bp := KOK.out.p
          rw [show Kn.w ⟨l, S, U, a⟩ = e1 from he1] at bw
          rw [show Kn.p ⟨l, S, U, a⟩ = e2 from he2] at bp
          obtain ⟨bw1, bw2⟩ := bw
          obtain ⟨bp1, bp2⟩ := bp
          have HE1 := Lib.hid he1; have HE2 := Lib.hid he2
          clear he1 he2 hU
          have V1 : Hid (IntKind.i64.wrap (a + e1) = a + e1) := IntWalk.i64_in _ (by omega)
          have V2 : Hid (IntKind.i64.wrap (p + e2) = p + e2) := IntWalk.i64_in _ (by omega)
          have HG0 : Hid (Below w5.heap.size w5 w5.drew) := below_drew w5
          go_wp2_with fail
          have tok2 : True := trivial
          go_region_held3 (fun w' => w'.cell? ⟨bs, k * 3, none⟩ = some (.int .i64 S.c) ∧ w'.cell? ⟨bs, k * 3 + 1, none⟩ = some (.int .i64 S.h) ∧ w'.cell? ⟨bs, k * 3 + 2, none⟩ = some (.int .i64 S.x) ∧ w'.cell? ⟨w.heap.size, 3, none⟩ = some (.slice (some ⟨b1, o1, none⟩) n cA) ∧ w'.cell? ⟨b1, o1 + k * 4, none⟩ = some (.int .i64 l.k) ∧ w'.cell? ⟨b1, o1 + k * 4 + 1, none⟩ = some (.int .i64 l.o) ∧ w'.cell? ⟨b1, o1 + k * 4 + 2, none⟩ = some (.int .i64 l.s) ∧ w'.cell? ⟨b1, o1 + k * 4 + 3, none⟩ = some (.int .i64 l.t))
            (first | exact ⟨g0, g1, g2, g3, g4, g5, g6, g7⟩ | go_keep)
            (first
              | ((have _t := tok2; clear tok2; go_at_call 43; (with_reducible refine (rweights_any S l U a e1 KOK.out HE1.out _).mono ?_); rintro e w6 ⟨rfl, hb6⟩
                  have HG1 := Lib.hid (HG0.out.trans (hb6.mono HG0.out.size))
                  have g0 := (HG1.out.cell (p := ⟨bs, k * 3, none⟩) gl5).trans d0
                  have g1 := (HG1.out.cell (p := ⟨bs, k * 3 + 1, none⟩) gl5).trans d1
                  have g2 := (HG1.out.cell (p := ⟨bs, k * 3 + 2, none⟩) gl5).trans d2
                  have g3 := (HG1.out.cell (p := ⟨w.heap.size, 3, none⟩) nz5).trans d3
                  have g4 := (HG1.out.cell (p := ⟨b1, o1 + k * 4, none⟩) lr5).trans d4
                  have g5 := (HG1.out.cell (p := ⟨b1, o1 + k * 4 + 1, none⟩) lr5).trans d5
                  have g6 := (HG1.out.cell (p := ⟨b1, o1 + k * 4 + 2, none⟩) lr5).trans d6
                  have g7 := (HG1.out.cell (p := ⟨b1, o1 + k * 4 + 3, none⟩) lr5).trans d7
                  clear hb6))
              | fail)
          rw [V1.out]
          have T6 := Lib.hid (TB.out.below HG1.out)
          have gl6 : bs < w6.heap.size := Nat.lt_of_lt_of_le gl5 HG1.out.size
          have nz6 : w.heap.size < w6.heap.size := Nat.lt_of_lt_of_le nz5 HG1.out.size
          have lr6 : b1 < w6.heap.size := Nat.lt_of_lt_of_le lr5 HG1.out.size
          clear t0 t1 t2 d0 d1 d2 d3 d4 d5 d6 d7
          obtain ⟨t0, t1, t2⟩ := T6.out.cells
          have tl6 := T6.out.lt
          have HJ0 : Hid (Below w6.heap.size w6 w6.drew) := below_drew w6
          go_wp2_with fail
          have tok3 : True := trivial
          go_region_held3 (fun w' => w'.cell? ⟨bs, k * 3, none⟩ = some (.int .i64 S.c) ∧ w'.cell? ⟨bs, k * 3 + 1, none⟩ = some (.int .i64 S.h) ∧ w'.cell? ⟨bs, k * 3 + 2, none⟩ = some (.int .i64 S.x) ∧ w'.cell? ⟨w.heap.size, 3, none⟩ = some (.slice (some ⟨b1, o1, none⟩) n cA) ∧ w'.cell? ⟨b1, o1 + k * 4, none⟩ = some (.int .i64 l.k) ∧ w'.cell? ⟨b1, o1 + k * 4 + 1, none⟩ = some (.int .i64 l.o) ∧ w'.cell? ⟨b1, o1 + k * 4 + 2, none⟩ = some (.int .i64 l.s) ∧ w'.cell? ⟨b1, o1 + k * 4 + 3, none⟩ = some (.int .i64 l.t) ∧ w'.cell? ⟨tb, 0, none⟩ = some (.int .i64 U.c) ∧ w'.cell? ⟨tb, 1, none⟩ = some (.int .i64 U.h) ∧ w'.cell? ⟨tb, 2, none⟩ = some (.int .i64 U.x))
            (first | exact ⟨j0, j1, j2, j3, j4, j5, j6, j7, i0, i1, i2⟩ | go_keep)
            (first
              | ((have _t := tok3; clear tok3; go_at_call 44; (with_reducible refine (rproducts_any S l U a e2 KOK.out HE2.out _).mono ?_); rintro e w7 ⟨rfl, hb7⟩
                  have HJ1 := Lib.hid (HJ0.out.trans (hb7.mono HJ0.out.size))
                  have j0 := (HJ1.out.cell (p := ⟨bs, k * 3, none⟩) gl6).trans g0
                  have j1 := (HJ1.out.cell (p := ⟨bs, k * 3 + 1, none⟩) gl6).trans g1
                  have j2 := (HJ1.out.cell (p := ⟨bs, k * 3 + 2, none⟩) gl6).trans g2
                  have j3 := (HJ1.out.cell (p := ⟨w.heap.size, 3, none⟩) nz6).trans g3
                  have j4 := (HJ1.out.cell (p := ⟨b1, o1 + k * 4, none⟩) lr6).trans g4
                  have j5 := (HJ1.out.cell (p := ⟨b1, o1 + k * 4 + 1, none⟩) lr6).trans g5
                  have j6 := (HJ1.out.cell (p := ⟨b1, o1 + k * 4 + 2, none⟩) lr6).trans g6
                  have j7 := (HJ1.out.cell (p := ⟨b1, o1 + k * 4 + 3, none⟩) lr6).trans g7
                  have i0 := (HJ1.out.cell (p := ⟨tb, 0, none⟩) tl6).trans t0
                  have i1 := (HJ1.out.cell (p := ⟨tb, 1, none⟩) tl6).trans t1
                  have i2 := (HJ1.out.cell (p := ⟨tb, 2, none⟩) tl6).trans t2
                  clear hb7))
              | fail)
          rw [V2.out]
          have T7 := Lib.hid (T6.out.below HJ1.out)
          have BJ := Lib.hid (chain (chain B5.out HG1.out) HJ1.out)
          have hOW := own_belowE HO.out BJ.out
          rw [← HM.out] at hOW
          have OW := Lib.hid hOW
          clear hOW
          have BW := Lib.hid (chain HBw.out BJ.out)
          have hBw7 : B ≤ w7.heap.size := by rw [HBB.out]; exact BW.out.size
          clear g0 g1 g2 g3 g4 g5 g6 g7 j0 j1 j2 j3 j4 j5 j6 j7 t0 t1 t2
          have hk60 : k ≤ 1000 := by omega
          have hmk : m = k + 1 := HM.out
          go_wp2_with (at_builtin; refine wpList_append_own _ rfl _ _ 52 rfl B 23 i0' (.agg #[.int .i64 0, .int .i64 0, .int .i64 0]) 3 24 Try.underlying52 hi hz0 hz1 hz2 rfl (by decide) _ m _ rfl (OW.out.alloc _) ⟨w7.heap.size, 0, none⟩ 1 1 (scells U) rfl rfl ?cA1 (scells_one U) ?cA3 ?cA4 ?cA5 ?_)
          case cA1 => exact (SB.new w7 U).news
          case cA3 => unfold maxLen; omega
          case cA4 => omega
          case cA5 => simp; omega
          intro v' w8 hown2 hgrow _
          have W1 : Hid (sumW s (ls.take (k + 1)) = a + e1) := by
            show _ = _
            rw [w_next HL.out, ← HSE.out, ← HAE.out, HE1.out]
          have P1 : Hid (sumP s (ls.take (k + 1)) = p + e2) := by
            show _ = _
            rw [p_next HL.out, ← HSE.out, ← HPE.out, ← HTE.out, HE2.out]
          have F1 := Lib.hid (fit_next (s := s) HL.out FT.out (by rw [← HSE.out]; exact HRE.out))
          have AT1 : Hid (RS w2 s ls B (k + 1) v' w8) := by
            refine ⟨?_, (BW.out.alloc BW.out.size _).grown hgrow (by simp; have := BW.out.size; omega) (fun q hqq => by have := (OW.out.lt _ hqq).1; rw [HBB.out] at this; exact this)⟩
            rw [sh_next HL.out, ← HSE.out, ← HTE.out, List.flatMap_append]
            simpa using hown2
          clear hown2 hgrow i0 i1 i2
          go_wp2_with fail
          go_roundw
          case rel => exact ⟨k + 1, by omega, by rw [W1.out], by rw [P1.out], by go_num, F1, AT1⟩
          case measure => simp [intOf]; omega
      · obtain ⟨w5, hw5⟩ : ∃ w5, w5 = ((w4.setCell ⟨wr.heap.size, 0, none⟩ (.int .i64 U.c)).setCell ⟨wr.heap.size, 1, none⟩ (.int .i64 U.h)).setCell ⟨wr.heap.size, 2, none⟩ (.int .i64 U.x) := ⟨_, rfl⟩
        obtain ⟨tb, htb⟩ : ∃ tb, tb = wr.heap.size := ⟨_, rfl⟩
        have TB : Hid (SB w5 tb U) := by rw [hw5, htb]; exact SBN.out.set3 U.c U.h U.x
        have B5 : Hid (Below wr.heap.size wr w5) := by rw [hw5]; exact below_set3 HC1.out (Nat.le_refl _) _ _ _
        rw [← hw5, ← htb]
        clear hw5 htb q0 q1 q2 q3 q4 q5 q6 q7 ne0 me0 ne1 me1 ne2 me2 HC0 HD0 HC1 SBN f0 f1 f2 y0 y1 y2
        have gl5 : bs < w5.heap.size := Nat.lt_of_lt_of_le hgl B5.out.size
        have nz5 : w.heap.size < w5.heap.size := Nat.lt_of_lt_of_le hnz B5.out.size
        have lr5 : b1 < w5.heap.size := Nat.lt_of_lt_of_le l1r B5.out.size
        have d0 := (B5.out.cell (p := ⟨bs, k * 3, none⟩) hgl).trans s0
        have d1 := (B5.out.cell (p := ⟨bs, k * 3 + 1, none⟩) hgl).trans s1
        have d2 := (B5.out.cell (p := ⟨bs, k * 3 + 2, none⟩) hgl).trans s2
        have d3 := (B5.out.cell (p := ⟨w.heap.size, 3, none⟩) hnz).trans c3
        have d4 := (B5.out.cell (p := ⟨b1, o1 + k * 4, none⟩) l1r).trans p0
        have d5 := (B5.out.cell (p := ⟨b1, o1 + k * 4 + 1, none⟩) l1r).trans p1
        have d6 := (B5.out.cell (p := ⟨b1, o1 + k * 4 + 2, none⟩) l1r).trans p2
        have d7 := (B5.out.cell (p := ⟨b1, o1 + k * 4 + 3, none⟩) l1r).trans p3
        obtain ⟨t0, t1, t2⟩ := TB.out.cells
        have tl5 := TB.out.lt
        clear s0 s1 s2 c3 p0 p1 p2 p3
        cases r
        · have HE := Lib.hid (err_shape (N := ⟨c, h, x, ls⟩) HF.out HR.out (by
            have := fit_stop HL.out (s := s) (by rw [← HSE.out]; exact HRE.out)
            rw [HS.out] at this; exact this))
          have H0 : Hid (shN ⟨c, h, x, ls⟩ = []) := shN_no (by rw [HE.out]; decide)
          go_wp2_with fail
          go_ret2
          refine ⟨none, 0, 0, by rw [HE.out]; rfl, by rw [H0.out]; rfl, by rw [H0.out]; exact Rg.nil _ _ _, chain HBn.out B5.out, Nat.le_refl _, Nat.zero_le _⟩
        · obtain rfl : U = T := hU rfl
          have KOK : Hid (KnOk ⟨l, S, U, a⟩) := by
            rw [HTE.out]; exact kn_ok a (by rw [HSE.out]; exact end_right _ _ HSR.out (all_take HA.out k) FT.out) HLY.out HRE.out
          obtain ⟨e1, he1⟩ : ∃ e1, wI S l = e1 := ⟨_, rfl⟩
          obtain ⟨e2, he2⟩ : ∃ e2, pI S U l = e2 := ⟨_, rfl⟩
          have bw := KOK.out.w
          have bp := KOK.out.p
          rw [show Kn.w ⟨l, S, U, a⟩ = e1 from he1] at bw
          rw [show Kn.p ⟨l, S, U, a⟩ = e2 from he2] at bp
          obtain ⟨bw1, bw2⟩ := bw
          obtain ⟨bp1, bp2⟩ := bp
          have HE1 := Lib.hid he1; have HE2 := Lib.hid he2
          clear he1 he2 hU
          have V1 : Hid (IntKind.i64.wrap (a + e1) = a + e1) := IntWalk.i64_in _ (by omega)
          have V2 : Hid (IntKind.i64.wrap (p + e2) = p + e2) := IntWalk.i64_in _ (by omega)
          have HG0 : Hid (Below w5.heap.size w5 w5.drew) := below_drew w5
          go_wp2_with fail
          have tok2 : True := trivial
          go_region_held3 (fun w' => w'.cell? ⟨bs, k * 3, none⟩ = some (.int .i64 S.c) ∧ w'.cell? ⟨bs, k * 3 + 1, none⟩ = some (.int .i64 S.h) ∧ w'.cell? ⟨bs, k * 3 + 2, none⟩ = some (.int .i64 S.x) ∧ w'.cell? ⟨w.heap.size, 3, none⟩ = some (.slice (some ⟨b1, o1, none⟩) n cA) ∧ w'.cell? ⟨b1, o1 + k * 4, none⟩ = some (.int .i64 l.k) ∧ w'.cell? ⟨b1, o1 + k * 4 + 1, none⟩ = some (.int .i64 l.o) ∧ w'.cell? ⟨b1, o1 + k * 4 + 2, none⟩ = some (.int .i64 l.s) ∧ w'.cell? ⟨b1, o1 + k * 4 + 3, none⟩ = some (.int .i64 l.t))
            (first | exact ⟨g0, g1, g2, g3, g4, g5, g6, g7⟩ | go_keep)
            (first
              | ((have _t := tok2; clear tok2; go_at_call 43; (with_reducible refine (rweights_any S l U a e1 KOK.out HE1.out _).mono ?_); rintro e w6 ⟨rfl, hb6⟩
                  have HG1 := Lib.hid (HG0.out.trans (hb6.mono HG0.out.size))
                  have g0 := (HG1.out.cell (p := ⟨bs, k * 3, none⟩) gl5).trans d0
                  have g1 := (HG1.out.cell (p := ⟨bs, k * 3 + 1, none⟩) gl5).trans d1
                  have g2 := (HG1.out.cell (p := ⟨bs, k * 3 + 2, none⟩) gl5).trans d2
                  have g3 := (HG1.out.cell (p := ⟨w.heap.size, 3, none⟩) nz5).trans d3
                  have g4 := (HG1.out.cell (p := ⟨b1, o1 + k * 4, none⟩) lr5).trans d4
                  have g5 := (HG1.out.cell (p := ⟨b1, o1 + k * 4 + 1, none⟩) lr5).trans d5
                  have g6 := (HG1.out.cell (p := ⟨b1, o1 + k * 4 + 2, none⟩) lr5).trans d6
                  have g7 := (HG1.out.cell (p := ⟨b1, o1 + k * 4 + 3, none⟩) lr5).trans d7
                  clear hb6))
              | fail)
          rw [V1.out]
          have T6 := Lib.hid (TB.out.below HG1.out)
          have gl6 : bs < w6.heap.size := Nat.lt_of_lt_of_le gl5 HG1.out.size
          have nz6 : w.heap.size < w6.heap.size := Nat.lt_of_lt_of_le nz5 HG1.out.size
          have lr6 : b1 < w6.heap.size := Nat.lt_of_lt_of_le lr5 HG1.out.size
          clear t0 t1 t2 d0 d1 d2 d3 d4 d5 d6 d7
          obtain ⟨t0, t1, t2⟩ := T6.out.cells
          have tl6 := T6.out.lt
          have HJ0 : Hid (Below w6.heap.size w6 w6.drew) := below_drew w6
          go_wp2_with fail
          have tok3 : True := trivial
          go_region_held3 (fun w' => w'.cell? ⟨bs, k * 3, none⟩ = some (.int .i64 S.c) ∧ w'.cell? ⟨bs, k * 3 + 1, none⟩ = some (.int .i64 S.h) ∧ w'.cell? ⟨bs, k * 3 + 2, none⟩ = some (.int .i64 S.x) ∧ w'.cell? ⟨w.heap.size, 3, none⟩ = some (.slice (some ⟨b1, o1, none⟩) n cA) ∧ w'.cell? ⟨b1, o1 + k * 4, none⟩ = some (.int .i64 l.k) ∧ w'.cell? ⟨b1, o1 + k * 4 + 1, none⟩ = some (.int .i64 l.o) ∧ w'.cell? ⟨b1, o1 + k * 4 + 2, none⟩ = some (.int .i64 l.s) ∧ w'.cell? ⟨b1, o1 + k * 4 + 3, none⟩ = some (.int .i64 l.t) ∧ w'.cell? ⟨tb, 0, none⟩ = some (.int .i64 U.c) ∧ w'.cell? ⟨tb, 1, none⟩ = some (.int .i64 U.h) ∧ w'.cell? ⟨tb, 2, none⟩ = some (.int .i64 U.x))
            (first | exact ⟨j0, j1, j2, j3, j4, j5, j6, j7, i0, i1, i2⟩ | go_keep)
            (first
              | ((have _t := tok3; clear tok3; go_at_call 44; (with_reducible refine (rproducts_any S l U a e2 KOK.out HE2.out _).mono ?_); rintro e w7 ⟨rfl, hb7⟩
                  have HJ1 := Lib.hid (HJ0.out.trans (hb7.mono HJ0.out.size))
                  have j0 := (HJ1.out.cell (p := ⟨bs, k * 3, none⟩) gl6).trans g0
                  have j1 := (HJ1.out.cell (p := ⟨bs, k * 3 + 1, none⟩) gl6).trans g1
                  have j2 := (HJ1.out.cell (p := ⟨bs, k * 3 + 2, none⟩) gl6).trans g2
                  have j3 := (HJ1.out.cell (p := ⟨w.heap.size, 3, none⟩) nz6).trans g3
                  have j4 := (HJ1.out.cell (p := ⟨b1, o1 + k * 4, none⟩) lr6).trans g4
                  have j5 := (HJ1.out.cell (p := ⟨b1, o1 + k * 4 + 1, none⟩) lr6).trans g5
                  have j6 := (HJ1.out.cell (p := ⟨b1, o1 + k * 4 + 2, none⟩) lr6).trans g6
                  have j7 := (HJ1.out.cell (p := ⟨b1, o1 + k * 4 + 3, none⟩) lr6).trans g7
                  have i0 := (HJ1.out.cell (p := ⟨tb, 0, none⟩) tl6).trans t0
                  have i1 := (HJ1.out.cell (p := ⟨tb, 1, none⟩) tl6).trans t1
                  have i2 := (HJ1.out.cell (p := ⟨tb, 2, none⟩) tl6).trans t2
                  clear hb7))
              | fail)
          rw [V2.out]
          have T7 := Lib.hid (T6.out.below HJ1.out)
          have BJ := Lib.hid (chain (chain B5.out HG1.out) HJ1.out)
          have hOW := own_belowE HO.out BJ.out
          rw [← HM.out] at hOW
          have OW := Lib.hid hOW
          clear hOW
          have BW := Lib.hid (chain HBw.out BJ.out)
          have hBw7 : B ≤ w7.heap.size := by rw [HBB.out]; exact BW.out.size
          clear g0 g1 g2 g3 g4 g5 g6 g7 j0 j1 j2 j3 j4 j5 j6 j7 t0 t1 t2
          have hk60 : k ≤ 1000 := by omega
          have hmk : m = k + 1 := HM.out
          go_wp2_with (at_builtin; refine wpList_append_own _ rfl _ _ 52 rfl B 23 i0' (.agg #[.int .i64 0, .int .i64 0, .int .i64 0]) 3 24 Try.underlying52 hi hz0 hz1 hz2 rfl (by decide) _ m _ rfl (OW.out.alloc _) ⟨w7.heap.size, 0, none⟩ 1 1 (scells U) rfl rfl ?c1 (scells_one U) ?c3 ?c4 ?c5 ?_)
          case c1 => exact (SB.new w7 U).news
          case c3 => unfold maxLen; omega
          case c4 => omega
          case c5 => simp; omega
          intro v' w8 hown2 hgrow _
          have W1 : Hid (sumW s (ls.take (k + 1)) = a + e1) := by
            show _ = _
            rw [w_next HL.out, ← HSE.out, ← HAE.out, HE1.out]
          have P1 : Hid (sumP s (ls.take (k + 1)) = p + e2) := by
            show _ = _
            rw [p_next HL.out, ← HSE.out, ← HPE.out, ← HTE.out, HE2.out]
          have F1 := Lib.hid (fit_next (s := s) HL.out FT.out (by rw [← HSE.out]; exact HRE.out))
          have AT1 : Hid (RS w2 s ls B (k + 1) v' w8) := by
            refine ⟨?_, (BW.out.alloc BW.out.size _).grown hgrow (by simp; have := BW.out.size; omega) (fun q hqq => by have := (OW.out.lt _ hqq).1; rw [HBB.out] at this; exact this)⟩
            rw [sh_next HL.out, ← HSE.out, ← HTE.out, List.flatMap_append]
            simpa using hown2
          clear hown2 hgrow i0 i1 i2
          go_wp2_with fail
          go_roundw
          case rel => exact ⟨k + 1, by omega, by rw [W1.out], by rw [P1.out], by go_num, F1, AT1⟩
          case measure => simp [intOf]; omega
    · obtain rfl : k = n := by omega
      have et : ls.take k = ls := by rw [LX.out, List.take_length]
      have FT2 := FT.out
      rw [et] at FT2 hO
      rw [et]
      obtain ⟨A2, c2, hv, hd1, hd2, hd3, hd4⟩ := own_cap scells_len (by decide) hO
      subst hv
      have RK := Lib.hid hd2; have D1 := Lib.hid hd1; have D3 := Lib.hid hd3; have D4 := Lib.hid hd4; have HB := Lib.hid hBn
      have HFT : Hid (fitL (⟨c, h, x, ls⟩ : Nt).s (⟨c, h, x, ls⟩ : Nt).ls = true) := by have := FT2; rw [HS.out] at this; exact this
      have HXN : Hid (sumW s ls = sumW (⟨c, h, x, ls⟩ : Nt).s (⟨c, h, x, ls⟩ : Nt).ls) := by rw [HS.out]; exact rfl
      have HYN : Hid (sumP s ls = sumP (⟨c, h, x, ls⟩ : Nt).s (⟨c, h, x, ls⟩ : Nt).ls) := by rw [HS.out]; exact rfl
      clear hO hBw hBn hd1 hd2 hd3 hd4 FT2 AT FT et
      obtain ⟨X, hX⟩ : ∃ X, X = sumW s ls := ⟨_, rfl⟩
      obtain ⟨Y, hY⟩ : ∃ Y, Y = sumP s ls := ⟨_, rfl⟩
      rw [← hX, ← hY]
      rw [← hX] at HXN
      rw [← hY] at HYN
      clear hX hY
      by_cases hX5 : X ≤ 512
      · by_cases hY5 : Y ≤ 512
        · have HE0 := Lib.hid (err_ok (N := ⟨c, h, x, ls⟩) HF.out HR.out HFT.out ⟨by rw [← HXN.out]; exact hX5, by rw [← HYN.out]; exact hY5⟩)
          have hsn : shN ⟨c, h, x, ls⟩ = shL s ls := by rw [shN_ok HE0.out, HS.out]
          have HSN := Lib.hid hsn
          clear hsn
          go_wp2_with fail
          go_ret2
          exact ⟨A2, c2, k + 1, by rw [HE0.out]; rfl, by rw [HSN.out]; exact D1.out, by rw [HSN.out]; exact RK.out, HB.out, D3.out, D4.out⟩
        · have HE5 := Lib.hid (err_full (N := ⟨c, h, x, ls⟩) HF.out HR.out HFT.out (by rw [← HXN.out, ← HYN.out]; omega))
          have H0 : Hid (shN ⟨c, h, x, ls⟩ = []) := shN_no (by rw [HE5.out]; decide)
          go_wp2_with fail
          go_ret2
          exact ⟨none, 0, 0, by rw [HE5.out]; rfl, by rw [H0.out]; rfl, by rw [H0.out]; exact Rg.nil _ _ _, HB.out, Nat.le_refl _, Nat.zero_le _⟩
      · have HE5 := Lib.hid (err_full (N := ⟨c, h, x, ls⟩) HF.out HR.out HFT.out (by rw [← HXN.out]; omega))
        have H0 : Hid (shN ⟨c, h, x, ls⟩ = []) := shN_no (by rw [HE5.out]; decide)
        go_wp2_with fail
        go_ret2
        exact ⟨none, 0, 0, by rw [HE5.out]; rfl, by rw [H0.out]; rfl, by rw [H0.out]; exact Rg.nil _ _ _, HB.out, Nat.le_refl _, Nat.zero_le _⟩

set_option maxHeartbeats 1000000 in
theorem rshapes_any (c h x : Int) (A : Option Addr) (cA n : Nat) (ls : List Ly) (w : World) (hx : Rl w A ls) (ln : n = ls.length) (hn : n ≤ 1000) :
    Calls Try.prog 26 #[.agg #[.int .i64 c, .int .i64 h, .int .i64 x, .slice A n cA]] w (ShapesTo ⟨c, h, x, ls⟩ w) := by
  cases hf : formB ⟨c, h, x, ls⟩
  · have HE : Hid (errN ⟨c, h, x, ls⟩ = 12) := err_form hf
    have H0 : Hid (shN ⟨c, h, x, ls⟩ = []) := shN_no (by rw [HE.out]; decide)
    have HX := Lib.hid hx; have LX := Lib.hid ln; have HF := Lib.hid hf
    clear hx ln hf
    go_enter Try.func26, Try.ntmps26
    go_wp2_with fail
    refine (rform_any c h x A cA n ls _ (HX.out.below ((Below.refl _ w).alloc (Nat.le_refl _) _)) LX.out hn).mono ?_
    rintro e w1 ⟨rfl, hb⟩
    rw [HF.out]
    have B1 := Lib.hid (chain ((Below.refl w.heap.size w).alloc (Nat.le_refl _) _) hb)
    clear hb
    go_wp2_with fail
    go_ret2
    exact ⟨none, 0, 0, by rw [HE.out]; rfl, by rw [H0.out]; rfl, by rw [H0.out]; exact Rg.nil _ _ _, B1.out, Nat.le_refl _, Nat.zero_le _⟩
  · cases hr : rightB c h x
    · have HE : Hid (errN ⟨c, h, x, ls⟩ = 1) := err_arg hf hr
      have H0 : Hid (shN ⟨c, h, x, ls⟩ = []) := shN_no (by rw [HE.out]; decide)
      have HX := Lib.hid hx; have LX := Lib.hid ln; have HF := Lib.hid hf; have HR := Lib.hid hr
      clear hx ln hf hr
      go_enter Try.func26, Try.ntmps26
      go_wp2_with fail
      refine (rform_any c h x A cA n ls _ (HX.out.below ((Below.refl _ w).alloc (Nat.le_refl _) _)) LX.out hn).mono ?_
      rintro e w1 ⟨rfl, hb⟩
      rw [HF.out]
      have B1 := Lib.hid (chain ((Below.refl w.heap.size w).alloc (Nat.le_refl _) _) hb)
      have N1 := Lib.hid ((NB.new w c h x (.slice A n cA)).below hb)
      obtain ⟨c0, c1, c2, c3⟩ := N1.out.cells
      clear hb
      go_wp2_with fail
      refine (rright_no c h x _ HR.out).mono ?_
      rintro e w2 ⟨rfl, hb⟩
      have B2 := Lib.hid (chain B1.out hb)
      clear hb
      go_wp2_with fail
      go_ret2
      exact ⟨none, 0, 0, by rw [HE.out]; rfl, by rw [H0.out]; rfl, by rw [H0.out]; exact Rg.nil _ _ _, B2.out, Nat.le_refl _, Nat.zero_le _⟩
    · exact rshapes_rest c h x A cA n ls w hx ln hn hf hr

end Go.Proofs.Ytklgjhldebdegaa

namespace Go.Proofs.Ytklgjhldebdegaa
open Go.RowKit

def tcells (t : Tm) : List Value := [.int .i64 t.x, .int .i64 t.w]
theorem tcells_len (t : Tm) : (tcells t).length = 2 := rfl
theorem tcells_one (t : Tm) : ∀ u ∈ tcells t, u.oneCell' = true := fun u hu => by
  simp only [tcells, List.mem_cons, List.not_mem_nil, or_false] at hu
  rcases hu with rfl | rfl <;> rfl
theorem Try.info3 : (Try.prog.info? 3).map (fun i => (i.zero, i.size, i.bytes)) = some (some (.int .i64 0), 1, 8) := by kernel_rfl
theorem Try.info116 : (Try.prog.info? 116).map (fun i => (i.zero, i.size, i.bytes)) = some (some (.agg #[.int .i64 0, .int .i64 0]), 2, 16) := by kernel_rfl
/-- How things stand when Parts has been told some places. -/
def PJ (w0 : World) (pb : Nat) (xs : List Int) (w : World) : Prop :=
  (∃ v, CB w pb 33 v ∧ w.ownsRow (pb + 1) 3 1 v xs.length (xs.flatMap icells)) ∧ Below w0.heap.size w0 w
theorem PJ.below {w0 : World} {pb : Nat} {xs : List Int} {w w' : World} (h : PJ w0 pb xs w) (hb : Below w.heap.size w w') : PJ w0 pb xs w' := by
  obtain ⟨⟨v, h1, h2⟩, h3⟩ := h
  exact ⟨⟨v, h1.below hb, own_belowE h2 hb⟩, chain h3 hb⟩

set_option maxHeartbeats 2000000 in
set_option maxRecDepth 100000 in
theorem parts1_any (w0 : World) (pb : Nat) (hp : w0.heap.size ≤ pb) (xs : List Int) (x : Int) (w : World) (hl : xs.length < 2000) (hJ : PJ w0 pb xs w) :
    Calls Try.prog 79 #[.int .i64 x, .pointer (some ⟨pb, 0, none⟩)] w fun e w' => e = .returned (.tuple #[]) ∧ PJ w0 pb (xs ++ [x]) w' ∧ KeepX w w' := by
  obtain ⟨i0, hi, hz0, hz1, hz2⟩ := info_parts Try.info3
  obtain ⟨⟨v, hV, hO⟩, hB⟩ := hJ
  obtain ⟨A, c, rfl, hd1, hd2⟩ := own_rg icells_len (by decide) hO
  clear hd1 hd2
  have cv := hV.cell
  have fv := hV.frozen
  have lv := hV.lt
  have V := Lib.hid hV; have O := Lib.hid hO; have B := Lib.hid hB
  clear hV hO hB
  go_enter Try.func79, Try.ntmps79
  go_wp2_with (at_builtin; refine wpList_append_own _ rfl _ _ 33 rfl (pb + 1) 3 i0 (.int .i64 0) 1 8 Try.underlying33 hi hz0 hz1 hz2 rfl (by decide) _ xs.length _ rfl (O.out.alloc _) ⟨w.heap.size, 0, none⟩ 1 1 (icells x) rfl rfl ?c1 (icells_one x) ?c3 ?c4 ?c5 ?_)
  case c1 => first | exact fun _ _ h => h | exact new_cells
  case c3 => unfold maxLen; omega
  case c4 => omega
  case c5 => first | omega | (simp; omega)
  intro v' w4 hown2 hgrow hcap
  clear hcap
  have O4 : w4.ownsRow (pb + 1) 3 1 v' (xs.length + 1) ((xs ++ [x]).flatMap icells) := by
    rw [List.flatMap_append]
    simpa using hown2
  obtain ⟨A', c', rfl, hd1, hd2⟩ := own_rg icells_len (by decide) O4
  clear hd1 hd2
  have hV4 : CB w4 pb 33 (.slice A xs.length c) := (hgrow.block _ (by simp; omega) (own_ne_low O.out (by omega))).trans ((Lib.alloc_old _ _ _ lv).trans V.out)
  have hB4 : Below w0.heap.size w0 w4 := (B.out.alloc B.out.size _).grown hgrow (by simp; have := B.out.size; omega) (fun q hqq => by have := (O.out.lt _ hqq).1; omega)
  have KX : KeepX w w4 := fun b cs q => by
    have lb := (Array.getElem?_eq_some_iff.1 q).1
    exact (hgrow.block b (by simp; omega) (own_ne_type O.out q (by decide))).trans ((Lib.alloc_old _ _ _ lb).trans q)
  have V4 := Lib.hid hV4; have B4 := Lib.hid hB4; have OO := Lib.hid O4; have KK := Lib.hid KX
  have cv4 := hV4.cell
  have fv4 := hV4.frozen
  have NB4 : Hid (∀ b cs, w.heap[b]? = some (Obj.cells cs 121 (0, 0)) → b ≠ pb) := fun b cs q e => by
    subst e
    have := V.out
    unfold CB at this
    rw [this] at q
    injection q with q
    injection q with _ q _
    exact absurd q (by decide)
  clear hown2 hgrow O4 hV4 hB4 KX cv fv
  go_wp2_with fail
  go_end0
  refine ⟨rfl, ⟨⟨_, V4.out.set _, by rw [List.length_append]; exact own_same OO.out fun g h1 h2 => Below.heap_setCell _ _ _ _ (by show g ≠ pb; omega)⟩, B4.out.setCell (p := ⟨pb, 0, none⟩) hp _⟩, fun b cs q => ?_⟩
  rw [Below.heap_setCell _ _ _ _ (NB4.out b cs q)]
  exact KK.out b cs q

/-- How things stand when ofWindows has been told some places. -/
def TJ (w0 : World) (pw pb : Nat) (a : Int) (xs : List Int) (w : World) : Prop :=
  (∃ v, CB w pb 113 v ∧ w.ownsRow (pb + 1) 116 2 v xs.length ((seqT a xs).flatMap tcells)) ∧ CB w pw 3 (.int .i64 (a + xs.length)) ∧ Below w0.heap.size w0 w
theorem TJ.below {w0 : World} {pw pb : Nat} {a : Int} {xs : List Int} {w w' : World} (h : TJ w0 pw pb a xs w) (hb : Below w.heap.size w w') : TJ w0 pw pb a xs w' := by
  obtain ⟨⟨v, h1, h2⟩, h4, h3⟩ := h
  exact ⟨⟨v, h1.below hb, own_belowE h2 hb⟩, h4.below hb, chain h3 hb⟩

set_option maxHeartbeats 2000000 in
set_option maxRecDepth 100000 in
theorem terms1_any (w0 : World) (pw pb : Nat) (hp : w0.heap.size ≤ pw) (hpp : pw < pb) (a : Int) (a0 : 0 ≤ a) (a1 : a ≤ 100000) (xs : List Int) (x : Int) (w : World) (hl : xs.length < 2000) (hJ : TJ w0 pw pb a xs w) :
    Calls Try.prog 81 #[.int .i64 x, .pointer (some ⟨pb, 0, none⟩), .pointer (some ⟨pw, 0, none⟩)] w fun e w' => e = .returned (.tuple #[]) ∧ TJ w0 pw pb a (xs ++ [x]) w' ∧ KeepX w w' := by
  obtain ⟨i0, hi, hz0, hz1, hz2⟩ := info_parts Try.info116
  obtain ⟨⟨v, hV, hO⟩, hC, hB⟩ := hJ
  obtain ⟨A, c, rfl, hd1, hd2⟩ := own_rg tcells_len (by decide) hO
  clear hd1 hd2
  obtain ⟨y, hy⟩ : ∃ y, y = a + (xs.length : Int) := ⟨_, rfl⟩
  rw [← hy] at hC
  have y0 : 0 ≤ y := by omega
  have y1 : y ≤ 200000 := by omega
  have HY := Lib.hid hy
  have cv := hV.cell
  have fv := hV.frozen
  have lv := hV.lt
  have cc := hC.cell
  have lc := hC.lt
  have V := Lib.hid hV; have O := Lib.hid hO; have B := Lib.hid hB; have C := Lib.hid hC
  clear hV hO hB hC hy
  go_enter Try.func81, Try.ntmps81
  go_wp2_with (at_builtin; refine wpList_append_own _ rfl _ _ 113 rfl (pb + 1) 116 i0 (.agg #[.int .i64 0, .int .i64 0]) 2 16 Try.underlying113 hi hz0 hz1 hz2 rfl (by decide) _ xs.length _ rfl (O.out.alloc _) ⟨w.heap.size, 0, none⟩ 1 1 (tcells ⟨x, y⟩) rfl rfl ?c1 (tcells_one _) ?c3 ?c4 ?c5 ?_)
  case c1 => first | exact fun _ _ h => h | exact new_cells
  case c3 => unfold maxLen; omega
  case c4 => omega
  case c5 => first | omega | (simp; omega)
  intro v' w4 hown2 hgrow hcap
  clear hcap
  have O4 : w4.ownsRow (pb + 1) 116 2 v' (xs.length + 1) ((seqT a (xs ++ [x])).flatMap tcells) := by
    rw [seq_snoc, ← HY.out, List.flatMap_append]
    simpa using hown2
  obtain ⟨A', c', rfl, hd1, hd2⟩ := own_rg tcells_len (by decide) O4
  clear hd1 hd2
  have hV4 : CB w4 pb 113 (.slice A xs.length c) := (hgrow.block _ (by simp; omega) (own_ne_low O.out (by omega))).trans ((Lib.alloc_old _ _ _ lv).trans V.out)
  have hC4 : CB w4 pw 3 (.int .i64 y) := (hgrow.block _ (by simp; omega) (own_ne_low O.out (by omega))).trans ((Lib.alloc_old _ _ _ lc).trans C.out)
  have hB4 : Below w0.heap.size w0 w4 := (B.out.alloc B.out.size _).grown hgrow (by simp; have := B.out.size; omega) (fun q hqq => by have := (O.out.lt _ hqq).1; omega)
  have KX : KeepX w w4 := fun b cs q => by
    have lb := (Array.getElem?_eq_some_iff.1 q).1
    exact (hgrow.block b (by simp; omega) (own_ne_type O.out q (by decide))).trans ((Lib.alloc_old _ _ _ lb).trans q)
  have V4 := Lib.hid hV4; have B4 := Lib.hid hB4; have OO := Lib.hid O4; have KK := Lib.hid KX; have C4 := Lib.hid hC4
  have cv4 := hV4.cell
  have fv4 := hV4.frozen
  have cc4 := hC4.cell
  have fc4 := hC4.frozen
  have ne1 : ¬ pw = pb := by omega
  have ne2 : ¬ pb = pw := by omega
  have NB4 : Hid (∀ b cs, w.heap[b]? = some (Obj.cells cs 121 (0, 0)) → b ≠ pb ∧ b ≠ pw) := fun b cs q => by
    constructor
    · intro e
      subst e
      have := V.out
      unfold CB at this
      rw [this] at q
      injection q with q
      injection q with _ q _
      exact absurd q (by decide)
    · intro e
      subst e
      have := C.out
      unfold CB at this
      rw [this] at q
      injection q with q
      injection q with _ q _
      exact absurd q (by decide)
  clear hown2 hgrow O4 hV4 hB4 KX cv fv hC4 cc
  go_wp2_with fail
  go_end0
  refine ⟨rfl, ⟨⟨_, (V4.out.set _).other ⟨pw, 0, none⟩ _ (by show pb ≠ pw; omega), by rw [List.length_append]; exact own_same OO.out fun g h1 h2 => by rw [Below.heap_setCell _ _ _ _ (by show g ≠ pw; omega), Below.heap_setCell _ _ _ _ (by show g ≠ pb; omega)]⟩, ?_, (B4.out.setCell (p := ⟨pb, 0, none⟩) (by show w0.heap.size ≤ pb; omega) _).setCell (p := ⟨pw, 0, none⟩) hp _⟩, fun b cs q => ?_⟩
  · have := (C4.out.other ⟨pb, 0, none⟩ (.slice A' (xs.length + 1) c') (by show pw ≠ pb; omega)).set (.int .i64 (y + 1))
    rw [List.length_append, show a + ((xs.length + [x].length : Nat) : Int) = y + 1 by rw [HY.out]; simp; omega]
    exact this
  · rw [Below.heap_setCell _ _ _ _ (NB4.out b cs q).2, Below.heap_setCell _ _ _ _ (NB4.out b cs q).1]
    exact KK.out b cs q

set_option maxHeartbeats 4000000 in
set_option maxRecDepth 100000 in
theorem ofWindows_new (lk lo lt : Int) (o : Int) (s : Sh) (m cx cy cn : Nat) (first : Int) (w : World) (hm : m ≤ 12) (hcx : cx ≤ 150) (hcy : cy ≤ 150) (hcn : s.c = (cn : Int)) (hc8 : cn ≤ 8) (o0 : 0 ≤ o) (o1 : o ≤ 8) (f0 : 0 ≤ first) (f1 : first ≤ 512) :
    Calls Try.prog 76 #[.agg #[.int .i64 lk, .int .i64 lo, .int .i64 (m : Int), .int .i64 lt, .int .i64 s.c, .int .i64 s.h, .int .i64 s.x, .int .i64 o, .complex .f64 (fl cx) (fl cy)], .int .i64 first] w (RowNew tcells (seqT (first + o * s.c * (m : Int) * (m : Int)) (chanL s cy cx m cn)) w) := by
  have hmf : ∀ (fn : Fn) (first cap : Array Value) (w : World), (Instr.makeFunc fn first cap).run Try.prog w = .ok (.func fn first cap) w := fun _ _ _ _ => rfl
  have c0 : 0 ≤ s.c := by omega
  have c8 : s.c ≤ 8 := by omega
  have HCN := Lib.hid hcn
  clear hcn
  obtain ⟨p1, p2, p3, p4, p5, p6⟩ := conv_small o0 o1 c0 c8 (show (0 : Int) ≤ (m : Int) by omega) (show (m : Int) ≤ 12 by omega)
  obtain ⟨a, ha⟩ : ∃ a, a = first + o * s.c * (m : Int) * (m : Int) := ⟨_, rfl⟩
  have a0 : 0 ≤ a := by omega
  have a1 : a ≤ 100000 := by omega
  obtain ⟨W, hW⟩ : ∃ W, W = ((w.alloc (.cells #[.int .i64 lk, .int .i64 lo, .int .i64 (m : Int), .int .i64 lt, .int .i64 s.c, .int .i64 s.h, .int .i64 s.x, .int .i64 o, .complex .f64 (fl cx) (fl cy)] 121)).alloc (.cells #[.int .i64 (first + o * s.c * (m : Int) * (m : Int))] 3)).alloc (.cells #[.slice none 0 0] 113) := ⟨_, rfl⟩
  have J0 : Hid (TJ w (w.heap.size + 1) (w.heap.size + 1 + 1) a [] W) := by
    rw [hW, ← ha]
    refine ⟨⟨.slice none 0 0, ?_, ⟨rfl, .inl ⟨rfl, rfl⟩⟩⟩, ?_, by repeat first | exact Below.refl _ _ | refine chain_alloc ?_ _⟩
    · have := heap_alloc_new (((w.alloc (.cells #[.int .i64 lk, .int .i64 lo, .int .i64 (m : Int), .int .i64 lt, .int .i64 s.c, .int .i64 s.h, .int .i64 s.x, .int .i64 o, .complex .f64 (fl cx) (fl cy)] 121)).alloc (.cells #[.int .i64 a] 3))) (.cells #[.slice none 0 0] 113)
      rw [show ((w.alloc _).alloc _).heap.size = w.heap.size + 1 + 1 by simp] at this
      exact this
    · have := heap_alloc_new (w.alloc (.cells #[.int .i64 lk, .int .i64 lo, .int .i64 (m : Int), .int .i64 lt, .int .i64 s.c, .int .i64 s.h, .int .i64 s.x, .int .i64 o, .complex .f64 (fl cx) (fl cy)] 121)) (.cells #[.int .i64 (a + ([] : List Int).length)] 3)
      rw [show (w.alloc _).heap.size = w.heap.size + 1 by simp] at this
      exact (Lib.alloc_old _ _ _ (by simp)).trans (by simpa using this)
  have X0 : Hid (XB W w.heap.size lk lo lt o s m cx cy) := by
    rw [hW]
    exact (Lib.alloc_old _ _ _ (by simp; omega)).trans ((Lib.alloc_old _ _ _ (by simp)).trans (XB.new w lk lo lt o s m cx cy))
  have HA := Lib.hid ha
  clear ha
  go_enter Try.func76, Try.ntmps76
  go_wp2_with fail
  rw [← hW]
  clear hW
  go_loopg [7, 27] cn (fun g _ s27 wx => ∃ i : Nat, i ≤ cn ∧ Hid (g = cn - i) ∧ s27 = .int .i64 (i : Int) ∧ Hid (TJ w (w.heap.size + 1) (w.heap.size + 1 + 1) a (chanL s cy cx m i) wx) ∧ Hid (KeepX W wx))
  case atStart => exact ⟨0, by omega, by show _ = _; omega, rfl, by show TJ _ _ _ _ _ _; simpa [chanL] using J0.out, KeepX.refl _⟩
  case round =>
    obtain ⟨i, hi, HG, rfl, JR, KR⟩ := hrel
    have XR := Lib.hid (X0.out.keep KR.out)
    obtain ⟨x0, x1, x2, x3, x4, x5, x6, x7, x8⟩ := XR.out.cells
    by_cases im : i < cn
    · have ii : (i : Int) < s.c := by rw [HCN.out]; omega
      go_wp2_with fail
      refine (window_any 81 #[.pointer (some ⟨w.heap.size + 1 + 1, 0, none⟩), .pointer (some ⟨w.heap.size + 1, 0, none⟩)] (TJ w (w.heap.size + 1) (w.heap.size + 1 + 1) a) (by intro args w; go_simp) (fun xs x w' hl hj => terms1_any w _ _ (by omega) (by omega) a a0 a1 xs x w' hl hj) (fun xs w1 w2 h1 h2 => h1.below h2) lk lo lt o s m cx cy (i : Int) _ _ JR.out hm hcx hcy ?hlen).mono ?_
      case hlen =>
        rw [chan_len]
        have : i * (m * m) ≤ 7 * (12 * 12) := Nat.mul_le_mul (by omega) (Nat.mul_le_mul hm hm)
        omega
      rintro e w2 ⟨rfl, hj, hk⟩
      rw [← chan_next] at hj
      have J2 := Lib.hid hj; have K2 := Lib.hid (KR.out.trans hk)
      clear hj hk
      go_wp2_with fail
      go_roundg (cn - (i + 1))
      case measure => have := HG.out; omega
      case rel => exact ⟨i + 1, by omega, rfl, by go_num, J2, K2⟩
    · obtain rfl : i = cn := by omega
      have ii : ¬ (i : Int) < s.c := by rw [HCN.out]; omega
      obtain ⟨⟨v, hV, hO⟩, _, hB⟩ := JR.out
      obtain ⟨A, c, hv, hd1, hd2, hd3, hd4⟩ := own_cap tcells_len (by decide) hO
      subst hv
      have NEW : Hid (∀ a, A = some a → w.heap.size ≤ a.block) := fun a ha => by have := own_new hO a ha; omega
      have D1 := Lib.hid hd1; have D2 := Lib.hid hd2; have D3 := Lib.hid hd3; have D4 := Lib.hid hd4; have B := Lib.hid hB
      have cv := hV.cell
      clear hV hO hB hd1 hd2 hd3 hd4
      go_wp2_with fail
      go_ret
      exact ⟨A, c, _, rfl, by rw [← HA.out]; exact D1.out, by rw [← HA.out]; exact D2.out, B.out, D3.out, D4.out, NEW.out⟩
end Go.Proofs.Ytklgjhldebdegaa

namespace Go.Proofs.Ytklgjhldebdegaa
open Go.RowKit

/-- A row of terms that is being filled. -/
def FB (w : World) (g : Nat) (b : Int) (n k : Nat) : Prop :=
  ∃ cs : Array Value, w.heap[g]? = some (.cells cs 116 (0, 0)) ∧ cs.size = n * 2 ∧ (∀ j, j < n * 2 → ∃ v, cs[j]? = some (.int .i64 v)) ∧ ∀ j, j < k → cs[j * 2]? = some (.int .i64 (j : Int)) ∧ cs[j * 2 + 1]? = some (.int .i64 (b + (j : Int)))
theorem FB.start (w : World) (b : Int) (n : Nat) : FB (w.alloc (.cells (madeCells #[.int .i64 0, .int .i64 0] (n * 2)) 116)) w.heap.size b n 0 := by
  refine ⟨_, heap_alloc_new w _, size_madeCells _ _, fun j hj => ⟨0, ?_⟩, fun j hj => absurd hj (by omega)⟩
  have h2 : j % 2 = 0 ∨ j % 2 = 1 := by omega
  rcases h2 with h2 | h2 <;> simp [madeCells, hj, h2]
theorem FB.lt {w : World} {g : Nat} {b : Int} {n k : Nat} (h : FB w g b n k) : g < w.heap.size := by
  obtain ⟨cs, h1, _⟩ := h
  exact (Array.getElem?_eq_some_iff.1 h1).1
theorem FB.facts {w : World} {g : Nat} {b : Int} {n k : Nat} (h : FB w g b n k) (hk : k < n) :
    (∃ v, w.cell? ⟨g, k * 2, none⟩ = some (.int .i64 v)) ∧ (∃ v, w.cell? ⟨g, k * 2 + 1, none⟩ = some (.int .i64 v)) ∧ ∀ i, w.frozen? ⟨g, i, none⟩ = false := by
  obtain ⟨cs, h1, h2, h3, _⟩ := h
  refine ⟨?_, ?_, fun i => Lib.frozen_of_heap h1 i⟩
  · rw [Lib.cell_of_heap h1]; exact h3 _ (by omega)
  · rw [Lib.cell_of_heap h1]; exact h3 _ (by omega)
theorem FB.step {w : World} {g : Nat} {b : Int} {n k : Nat} (h : FB w g b n k) (hk : k < n) :
    FB ((w.setCell ⟨g, k * 2, none⟩ (.int .i64 (k : Int))).setCell ⟨g, k * 2 + 1, none⟩ (.int .i64 (b + (k : Int)))) g b n (k + 1) := by
  obtain ⟨cs, h1, h2, h3, h4⟩ := h
  refine ⟨_, Lib.heap_setCell_same (Lib.heap_setCell_same h1 _) _, by simp [h2], fun j hj => ?_, fun j hj => ?_⟩
  · by_cases e1 : j = k * 2 + 1
    · subst e1; exact ⟨_, by rw [Array.getElem?_setIfInBounds_self_of_lt (by simp; omega)]⟩
    · by_cases e2 : j = k * 2
      · subst e2; exact ⟨_, by rw [Array.getElem?_setIfInBounds_ne (by omega), Array.getElem?_setIfInBounds_self_of_lt (by omega)]⟩
      · obtain ⟨v, hv⟩ := h3 j hj
        exact ⟨v, by rw [Array.getElem?_setIfInBounds_ne (by omega), Array.getElem?_setIfInBounds_ne (by omega)]; exact hv⟩
  · by_cases e : j = k
    · subst e
      exact ⟨by rw [Array.getElem?_setIfInBounds_ne (by omega), Array.getElem?_setIfInBounds_self_of_lt (by omega)], by rw [Array.getElem?_setIfInBounds_self_of_lt (by simp; omega)]⟩
    · obtain ⟨a1, a2⟩ := h4 j (by omega)
      exact ⟨by rw [Array.getElem?_setIfInBounds_ne (by omega), Array.getElem?_setIfInBounds_ne (by omega)]; exact a1, by rw [Array.getElem?_setIfInBounds_ne (by omega), Array.getElem?_setIfInBounds_ne (by omega)]; exact a2⟩
theorem num_get {n j : Nat} (h : j < n) : (numL n)[j]? = some (j : Int) := by simp [numL, h]
theorem FB.done {w : World} {g : Nat} {b : Int} {n : Nat} (h : FB w g b n n) : Rg tcells w (some ⟨g, 0, none⟩) (seqT b (numL n)) := fun _ => by
  have hl := h.lt
  obtain ⟨cs, h1, h2, h3, h4⟩ := h
  refine ⟨g, 0, rfl, hl, fun j u hu => ?_⟩
  rw [Nat.zero_add, Lib.cell_of_heap h1]
  have hj : j < n * 2 := by
    have := (List.getElem?_eq_some_iff.1 hu).1
    rw [flat_len tcells_len, seq_len, num_len] at this
    exact this
  have e : j = j / 2 * 2 + j % 2 := by omega
  have g1 := seq_get (numL n) b (j / 2) _ (num_get (by omega))
  rw [e, flat_get tcells_len _ (j / 2) (j % 2) _ g1 (by omega)] at hu
  obtain ⟨a1, a2⟩ := h4 (j / 2) (by omega)
  have h5 : j % 2 = 0 ∨ j % 2 = 1 := by omega
  rw [e]
  rcases h5 with h5 | h5
  · rw [h5] at hu ⊢
    rw [Nat.add_zero, a1]; exact hu
  · rw [h5] at hu ⊢
    rw [a2]; exact hu

set_option maxHeartbeats 4000000 in
set_option maxRecDepth 100000 in
theorem ofAll_new (lk lo lt : Int) (o : Int) (s : Sh) (m cx cy n : Nat) (first : Int) (w : World) (hn : sizeI s.c s.h s.x = (n : Int)) (o0 : 0 ≤ o) (o1 : o ≤ 8) (f0 : 0 ≤ first) (f1 : first ≤ 512) :
    Calls Try.prog 77 #[.agg #[.int .i64 lk, .int .i64 lo, .int .i64 (m : Int), .int .i64 lt, .int .i64 s.c, .int .i64 s.h, .int .i64 s.x, .int .i64 o, .complex .f64 (fl cx) (fl cy)], .int .i64 first] w (RowNew tcells (seqT (first + o * (n : Int)) (numL n)) w) := by
  have nb := sizeI_bd s.c s.h s.x
  rw [hn] at nb
  have n1 : n ≤ 128 := by omega
  obtain ⟨i0, hi, hz0, hz1, hz2⟩ := info_parts Try.info116
  have hmk : ∀ w : World, (Instr.makeSlice 113 (.int .i64 (n : Int)) (.int .i64 (n : Int))).run Try.prog w = .ok (.slice (some ⟨w.heap.size, 0, none⟩) n n) (w.alloc (.cells (madeCells #[.int .i64 0, .int .i64 0] (n * 2)) 116)) := fun w => by
    have := run_make (P := Try.prog) w 113 116 i0 _ Try.underlying113 hi hz0 .i64 .i64 (n : Int) (n : Int) (by omega) (Int.le_refl _) (by rw [hz2]; omega) (by omega)
    rw [hz1] at this
    exact this
  have q0 : (0 : Int) ≤ o * (n : Int) := mul_lo o0 (by omega)
  have q1 : o * (n : Int) ≤ 1024 := by have := mul_hi o0 o1 (show (0 : Int) ≤ (n : Int) by omega) (show (n : Int) ≤ 128 by omega); omega
  obtain ⟨b, hb⟩ : ∃ b, b = first + o * (n : Int) := ⟨_, rfl⟩
  have HBB := Lib.hid hb; have HN := Lib.hid hn
  rw [← hb]
  have b0 : 0 ≤ b := by omega
  have b1 : b ≤ 100000 := by omega
  clear hb hn nb hi hz0 hz1 hz2
  go_enter Try.func77, Try.ntmps77
  go_wp2_with fail
  refine (size_is s.c s.h s.x (n : Int) HN.out _).mono ?_
  rintro e w1 ⟨rfl, hb1⟩
  have B1 := Lib.hid (chain ((Below.refl w.heap.size w).alloc (Nat.le_refl _) _) hb1)
  have X1 := Lib.hid ((XB.new w lk lo lt o s m cx cy).keep (KeepX.below hb1))
  have lx1 := X1.out.lt
  clear hb1
  go_wp2_with fail
  obtain ⟨g, hg⟩ : ∃ g, g = w1.heap.size := ⟨_, rfl⟩
  obtain ⟨W, hW⟩ : ∃ W, W = w1.alloc (.cells (madeCells #[.int .i64 0, .int .i64 0] (n * 2)) 116) := ⟨_, rfl⟩
  have F0 : Hid (FB W g b n 0) := by rw [hW, hg]; exact FB.start w1 b n
  have B2 : Hid (Below w.heap.size w W) := by rw [hW]; exact chain_alloc B1.out _
  have X2 : Hid (XB W w.heap.size lk lo lt o s m cx cy) := by rw [hW]; exact (Lib.alloc_old _ _ _ lx1).trans X1.out
  have gne : w.heap.size < g := by rw [hg]; exact lx1
  rw [← hW, ← hg]
  clear hW hg X1 B1 lx1
  go_loopg [7, 15] n (fun gh _ s15 wx => ∃ k : Nat, k ≤ n ∧ Hid (gh = n - k) ∧ s15 = .int .i64 (k : Int) ∧ Hid (FB wx g b n k) ∧ Hid (Below w.heap.size w wx) ∧ Hid (XB wx w.heap.size lk lo lt o s m cx cy))
  case atStart => exact ⟨0, by omega, by show _ = _; omega, rfl, F0, B2, X2⟩
  case round =>
    obtain ⟨k, hk, HG, rfl, FK, BK, XK⟩ := hrel
    obtain ⟨x0, x1, x2, x3, x4, x5, x6, x7, x8⟩ := XK.out.cells
    by_cases km : k < n
    · obtain ⟨⟨v0, y0⟩, ⟨v1, y1⟩, fz⟩ := FK.out.facts km
      have f0 := fz (k * 2)
      have f1 := fz (k * 2 + 1)
      have lg := FK.out.lt
      have ki : (k : Int) < (n : Int) := by omega
      have ka : (0 : Int) ≤ (k : Int) := by omega
      have V : Hid (first + o * (n : Int) + (k : Int) = b + (k : Int)) := by show _ = _; rw [HBB.out]
      clear fz
      go_wp2_with fail
      rw [V.out]
      have F1 := Lib.hid (FK.out.step km)
      have B3 : Hid (Below w.heap.size w _) := (BK.out.setCell (p := ⟨g, k * 2, none⟩) (by show w.heap.size ≤ g; omega) (.int .i64 (k : Int))).setCell (p := ⟨g, k * 2 + 1, none⟩) (by show w.heap.size ≤ g; omega) (.int .i64 (b + (k : Int)))
      have X3 : Hid (XB ((_ : World).setCell ⟨g, k * 2 + 1, none⟩ (.int .i64 (b + (k : Int)))) w.heap.size lk lo lt o s m cx cy) := (Below.heap_setCell _ _ _ _ (by show w.heap.size ≠ g; omega)).trans ((Below.heap_setCell _ ⟨g, k * 2, none⟩ (.int .i64 (k : Int)) _ (by show w.heap.size ≠ g; omega)).trans XK.out)
      go_roundg (n - (k + 1))
      case measure => have := HG.out; omega
      case rel => exact ⟨k + 1, by omega, rfl, by go_num, F1, B3, X3⟩
    · obtain rfl : k = n := by omega
      go_wp2_with fail
      go_ret
      exact ⟨some ⟨g, 0, none⟩, k, k, rfl, by rw [seq_len, num_len], FK.out.done, BK.out, Nat.le_refl _, by unfold maxLen; omega, fun a ha => by cases ha; show w.heap.size ≤ g; omega⟩
end Go.Proofs.Ytklgjhldebdegaa

namespace Go.Proofs.Ytklgjhldebdegaa
open Go.RowKit

theorem at_far {c h x : Int} {ls : List Ly} {i : Int} (hi : ¬ (0 ≤ i ∧ i < (ls.length : Int))) : atN ⟨c, h, x, ls⟩ i = Kn.z := by
  by_cases e : errN ⟨c, h, x, ls⟩ = 0
  · exact at_out (by rw [knN_ok e, kn_len]; exact hi)
  · exact at_none e i
theorem kz_p : Kn.z.p = 0 := by decide
set_option maxHeartbeats 1000000 in
theorem rright_of (c h x : Int) (A : Option Addr) (cA n : Nat) (ls : List Ly) (w : World) (hx : Rl w A ls) (ln : n = ls.length) (hn : n ≤ 1000) :
    Calls Try.prog 15 #[.agg #[.int .i64 c, .int .i64 h, .int .i64 x, .slice A n cA]] w fun e w' => e = .returned (.bool (errN ⟨c, h, x, ls⟩ == 0)) ∧ Below w.heap.size w w' := by
  have HX := Lib.hid hx; have LX := Lib.hid ln
  clear hx ln
  obtain ⟨er, her⟩ : ∃ er, er = errN ⟨c, h, x, ls⟩ := ⟨_, rfl⟩
  rw [← her]
  have HER := Lib.hid her
  clear her
  go_enter Try.func15, Try.ntmps15
  go_wp2_with fail
  refine (rshapes_any c h x A cA n ls _ (HX.out.below ((Below.refl _ w).alloc (Nat.le_refl _) _)) LX.out hn).mono ?_
  rintro e w1 ⟨A1, k1, n1, rfl, hn1, hR, hb, hd1, hd2⟩
  have B1 := Lib.hid (chain ((Below.refl w.heap.size w).alloc (Nat.le_refl _) _) hb)
  have N1 := Lib.hid ((NB.new w c h x (.slice A n cA)).below hb)
  obtain ⟨c0, c1, c2, c3⟩ := N1.out.cells
  clear hb hd1 hd2
  rw [← HER.out]
  clear hn1 hR
  go_wp2_with fail
  go_ret
  exact ⟨rfl, B1.out⟩

end Go.Proofs.Ytklgjhldebdegaa

namespace Go.Proofs.Ytklgjhldebdegaa
open Go.RowKit

theorem below_set9 {w0 w : World} {B b : Nat} (H : Below B w0 w) (hb : B ≤ b) (v0 v1 v2 v3 v4 v5 v6 v7 v8 : Value) : Below B w0 (((((((((w.setCell ⟨b, 0, none⟩ v0).setCell ⟨b, 1, none⟩ v1).setCell ⟨b, 2, none⟩ v2).setCell ⟨b, 3, none⟩ v3).setCell ⟨b, 4, none⟩ v4).setCell ⟨b, 5, none⟩ v5).setCell ⟨b, 6, none⟩ v6).setCell ⟨b, 7, none⟩ v7).setCell ⟨b, 8, none⟩ v8) :=
  (((((((((H.setCell (p := ⟨b, 0, none⟩) hb _).setCell (p := ⟨b, 1, none⟩) hb _).setCell (p := ⟨b, 2, none⟩) hb _).setCell (p := ⟨b, 3, none⟩) hb _).setCell (p := ⟨b, 4, none⟩) hb _).setCell (p := ⟨b, 5, none⟩) hb _).setCell (p := ⟨b, 6, none⟩) hb _).setCell (p := ⟨b, 7, none⟩) hb _).setCell (p := ⟨b, 8, none⟩) hb _)
/-- A zero source in a variable. -/
def ZB (w : World) (b : Nat) : Prop := w.heap[b]? = some (.cells #[.int .i64 0, .int .i64 0, .int .i64 0, .int .i64 0, .int .i64 0, .int .i64 0, .int .i64 0, .int .i64 0, .complex .f64 0 0] 121 (0, 0))
theorem ZB.lt {w : World} {b : Nat} (H : ZB w b) : b < w.heap.size := (Array.getElem?_eq_some_iff.1 H).1
theorem ZB.below {w w' : World} {b : Nat} (H : ZB w b) (hb : Below w.heap.size w w') : ZB w' b := (hb.block b H.lt).trans H
theorem ZB.alloc {w : World} {b : Nat} (H : ZB w b) (o : Obj) : ZB (w.alloc o) b := (Lib.alloc_old w o b H.lt).trans H
theorem ZB.frozen {w : World} {b : Nat} (H : ZB w b) : ∀ i, w.frozen? ⟨b, i, none⟩ = false := fun i => Lib.frozen_of_heap H i
theorem ZB.cells {w : World} {b : Nat} (H : ZB w b) : w.cell? ⟨b, 0, none⟩ = some (.int .i64 0) ∧ w.cell? ⟨b, 1, none⟩ = some (.int .i64 0) ∧ w.cell? ⟨b, 2, none⟩ = some (.int .i64 0) ∧ w.cell? ⟨b, 3, none⟩ = some (.int .i64 0) ∧ w.cell? ⟨b, 4, none⟩ = some (.int .i64 0) ∧ w.cell? ⟨b, 5, none⟩ = some (.int .i64 0) ∧ w.cell? ⟨b, 6, none⟩ = some (.int .i64 0) ∧ w.cell? ⟨b, 7, none⟩ = some (.int .i64 0) ∧ w.cell? ⟨b, 8, none⟩ = some (.complex .f64 0 0) := by
  refine ⟨?_, ?_, ?_, ?_, ?_, ?_, ?_, ?_, ?_⟩ <;> (rw [Lib.cell_of_heap H]; rfl)
theorem zb_two (w : World) (a : Obj) : ZB ((w.alloc a).alloc (.cells #[.int .i64 0, .int .i64 0, .int .i64 0, .int .i64 0, .int .i64 0, .int .i64 0, .int .i64 0, .int .i64 0, .complex .f64 0 0] 121)) (w.heap.size + 1) := by
  have := heap_alloc_new (w.alloc a) (.cells #[.int .i64 0, .int .i64 0, .int .i64 0, .int .i64 0, .int .i64 0, .int .i64 0, .int .i64 0, .int .i64 0, .complex .f64 0 0] 121)
  rwa [show (w.alloc a).heap.size = w.heap.size + 1 by simp] at this

set_option maxHeartbeats 1000000 in
set_option maxRecDepth 100000 in
theorem find_none (c h x : Int) (A : Option Addr) (cA n : Nat) (ls : List Ly) (i p : Int) (w : World) (hx : Rl w A ls) (ln : n = ls.length) (hn : n ≤ 1000) (hh : hasK (atN ⟨c, h, x, ls⟩ i) p = false) :
    Calls Try.prog 74 #[.agg #[.int .i64 c, .int .i64 h, .int .i64 x, .slice A n cA], .int .i64 i, .int .i64 p] w fun e w' => e = .returned (.agg #[.int .i64 0, .int .i64 0, .int .i64 0, .int .i64 0, .int .i64 0, .int .i64 0, .int .i64 0, .int .i64 0, .complex .f64 0 0]) ∧ Below w.heap.size w w' := by
  have HH := Lib.hid hh
  clear hh
  have hcs : ∀ (a : Addr) (k : FloatKind) (re im : Nat) (m : Mode) (w : World), (store a (.complex k re im) m).run Try.prog w = stored Try.prog w a (.complex k re im) m := fun a k re im m w => run_store Try.prog w a _ m rfl
  have HX := Lib.hid hx; have LX := Lib.hid ln
  clear hx ln
  obtain ⟨er, her⟩ : ∃ er, er = errN ⟨c, h, x, ls⟩ := ⟨_, rfl⟩
  have HER := Lib.hid her
  clear her
  go_enter Try.func74, Try.ntmps74
  go_wp2_with fail
  refine (shapes_any c h x A cA n ls _ (HX.out.below (below_two w _ _)) LX.out hn).mono ?_
  rintro e w1 ⟨A1, k1, n1, rfl, hn1, hR, hb, hd1, hd2⟩
  rw [← HER.out]
  have B1 := Lib.hid (chain (below_two w _ _) hb)
  have N1 := Lib.hid (((NB.new w c h x (.slice A n cA)).alloc (.cells #[.int .i64 0, .int .i64 0, .int .i64 0, .int .i64 0, .int .i64 0, .int .i64 0, .int .i64 0, .int .i64 0, .complex .f64 0 0] 121)).below hb)
  have Z1 := Lib.hid ((zb_two w (.cells #[.int .i64 c, .int .i64 h, .int .i64 x, .slice A n cA] 26)).below hb)
  obtain ⟨c0, c1, c2, c3⟩ := N1.out.cells
  obtain ⟨y0, y1, y2, y3, y4, y5, y6, y7, y8⟩ := Z1.out.cells
  have f0 := Z1.out.frozen 0
  have f1 := Z1.out.frozen 1
  have f2 := Z1.out.frozen 2
  have f3 := Z1.out.frozen 3
  have f4 := Z1.out.frozen 4
  have f5 := Z1.out.frozen 5
  have f6 := Z1.out.frozen 6
  have f7 := Z1.out.frozen 7
  have f8 := Z1.out.frozen 8
  have lz1 := Z1.out.lt
  clear hb hd1 hd2
  by_cases h0 : ¬ er = 0
  · have b0 : (er != 0) = true := by simpa using h0
    clear h0 hn1 hR
    go_wp2_with fail
    exact bodyPost_ret (v := .agg #[.int .i64 0, .int .i64 0, .int .i64 0, .int .i64 0, .int .i64 0, .int .i64 0, .int .i64 0, .int .i64 0, .complex .f64 0 0]) (by simp [results, Try.results74, go_sem, y0, y1, y2, y3, y4, y5, y6, y7, y8]) rfl ⟨rfl, below_set9 B1.out (by omega) _ _ _ _ _ _ _ _ _⟩
  have h0 : er = 0 := by omega
  subst h0
  by_cases i0 : i < 0
  · have d0 : decide (i < 0) = true := decide_eq_true i0
    clear hn1 hR
    go_wp2_with fail
    exact bodyPost_ret (v := .agg #[.int .i64 0, .int .i64 0, .int .i64 0, .int .i64 0, .int .i64 0, .int .i64 0, .int .i64 0, .int .i64 0, .complex .f64 0 0]) (by simp [results, Try.results74, go_sem, y0, y1, y2, y3, y4, y5, y6, y7, y8]) rfl ⟨rfl, below_set9 B1.out (by omega) _ _ _ _ _ _ _ _ _⟩
  have d0 : decide (i < 0) = false := decide_eq_false i0
  by_cases i1 : (n : Int) ≤ i
  · have d1 : decide ((n : Int) ≤ i) = true := decide_eq_true i1
    clear hn1 hR
    go_wp2_with fail
    exact bodyPost_ret (v := .agg #[.int .i64 0, .int .i64 0, .int .i64 0, .int .i64 0, .int .i64 0, .int .i64 0, .int .i64 0, .int .i64 0, .complex .f64 0 0]) (by simp [results, Try.results74, go_sem, y0, y1, y2, y3, y4, y5, y6, y7, y8]) rfl ⟨rfl, below_set9 B1.out (by omega) _ _ _ _ _ _ _ _ _⟩
  have d1 : decide ((n : Int) ≤ i) = false := decide_eq_false i1
  obtain ⟨j, rfl⟩ : ∃ j : Nat, i = j := ⟨i.toNat, by omega⟩
  have jn : j < n := by omega
  have d2 : decide (n ≤ j) = false := by simp; omega
  have he := HER.out.symm
  rw [shN_ok he] at hR hn1
  rw [sh_len, ← LX.out] at hn1
  obtain ⟨bS, oS, rfl, hlS, hcS⟩ := hR (by rw [sh_len]; omega)
  have hjl : j < ls.length := by rw [← LX.out]; exact jn
  have hl := get_ly hjl
  obtain ⟨K, hK⟩ : ∃ K, K = atN ⟨c, h, x, ls⟩ (j : Int) := ⟨_, rfl⟩
  have hKu : K.u = endS ⟨c, h, x⟩ (ls.take (j + 1)) := by rw [hK, at_some he hl, end_next hl]
  have g2 := sh_get ls ⟨c, h, x⟩ (j + 1) (by omega)
  rw [← hKu] at g2
  obtain ⟨m, hm⟩ : ∃ m, m = j + 1 := ⟨_, rfl⟩
  obtain ⟨a3, a4, a5⟩ := sh_at hcS g2
  rw [← hm] at a3 a4 a5
  have hf : hasB K.u.c K.u.h K.u.x p = false := by have := HH.out; rw [← hK] at this; exact this
  have HF := Lib.hid hf
  have ma : (0 : Int) ≤ (m : Int) := by omega
  have mb : (m : Int) < (n1 : Int) := by omega
  have mb' : m < n1 := by omega
  have v1 : IntKind.i64.wrap ((j : Int) + 1) = (m : Int) := next_i64 hm (Nat.lt_succ_self j) (by omega)
  have v2 : wrap64 ((j : Int) + 1) = (m : Int) := next_wrap hm (Nat.lt_succ_self j) (by omega)
  clear hf hKu g2 hl he hn1 hm hcS hK
  go_wp2_with fail
  refine (of_any K.u.c K.u.h K.u.x p _).mono ?_
  rintro e w2 ⟨rfl, hb⟩
  rw [HF.out]
  have B2 := Lib.hid (chain B1.out hb)
  have Z2 := Lib.hid (Z1.out.below hb)
  clear hb y0 f0 y1 f1 y2 f2 y3 f3 y4 f4 y5 f5 y6 f6 y7 f7 y8 f8 c0 c1 c2 c3 lz1
  obtain ⟨y0, y1, y2, y3, y4, y5, y6, y7, y8⟩ := Z2.out.cells
  have f0 := Z2.out.frozen 0
  have f1 := Z2.out.frozen 1
  have f2 := Z2.out.frozen 2
  have f3 := Z2.out.frozen 3
  have f4 := Z2.out.frozen 4
  have f5 := Z2.out.frozen 5
  have f6 := Z2.out.frozen 6
  have f7 := Z2.out.frozen 7
  have f8 := Z2.out.frozen 8
  have lz1 := Z2.out.lt
  go_wp2_with fail
  exact bodyPost_ret (v := .agg #[.int .i64 0, .int .i64 0, .int .i64 0, .int .i64 0, .int .i64 0, .int .i64 0, .int .i64 0, .int .i64 0, .complex .f64 0 0]) (by simp [results, Try.results74, go_sem, y0, y1, y2, y3, y4, y5, y6, y7, y8]) rfl ⟨rfl, below_set9 B2.out (by omega) _ _ _ _ _ _ _ _ _⟩

set_option maxHeartbeats 2000000 in
set_option maxRecDepth 100000 in
theorem find_some (c h x : Int) (A : Option Addr) (cA n : Nat) (ls : List Ly) (i p : Int) (K : Kn) (st : Int) (ch cx cy : Nat) (w : World) (hx : Rl w A ls) (ln : n = ls.length) (hn : n ≤ 1000) (hK : K = atN ⟨c, h, x, ls⟩ i) (hh : hasK K p = true)
    (hst : st = (if K.l.k = 3 then K.l.s else K.l.t)) (hch : chI K.u.c K.u.h K.u.x p = (ch : Int)) (hcx : colI K.u.c K.u.h K.u.x p * st = (cx : Int)) (hcy : rowI K.u.c K.u.h K.u.x p * st = (cy : Int)) (bx : cx ≤ 1000000000) (bY : cy ≤ 1000000000) :
    Calls Try.prog 74 #[.agg #[.int .i64 c, .int .i64 h, .int .i64 x, .slice A n cA], .int .i64 i, .int .i64 p] w fun e w' => e = .returned (.agg #[.int .i64 K.l.k, .int .i64 K.l.o, .int .i64 K.l.s, .int .i64 K.l.t, .int .i64 K.i.c, .int .i64 K.i.h, .int .i64 K.i.x, .int .i64 (ch : Int), .complex .f64 (fl cx) (fl cy)]) ∧ Below w.heap.size w w' := by
  have HH := Lib.hid hh; have HK := Lib.hid hK; have HCH := Lib.hid hch
  obtain ⟨col, hcol⟩ : ∃ col, col = colI K.u.c K.u.h K.u.x p := ⟨_, rfl⟩
  obtain ⟨row, hrow⟩ : ∃ row, row = rowI K.u.c K.u.h K.u.x p := ⟨_, rfl⟩
  rw [← hcol] at hcx
  rw [← hrow] at hcy
  have HCOL := Lib.hid hcol; have HROW := Lib.hid hrow; have HST := Lib.hid hst
  clear hh hch hcol hrow hst
  have z1 : 0 ≤ col * st := by omega
  have z2 : col * st ≤ 1000000000 := by omega
  have z3 : 0 ≤ row * st := by omega
  have z4 : row * st ≤ 1000000000 := by omega
  have hE : errN ⟨c, h, x, ls⟩ = 0 := by
    by_cases e : errN ⟨c, h, x, ls⟩ = 0
    · exact e
    · have := HH.out; rw [hK, at_none e, hasK_z] at this; cases this
  have hI : 0 ≤ i ∧ i < (ls.length : Int) := by
    by_cases e : 0 ≤ i ∧ i < (ls.length : Int)
    · exact e
    · have := HH.out; rw [hK, at_far e, hasK_z] at this; cases this
  obtain ⟨j, rfl⟩ : ∃ j : Nat, i = j := ⟨i.toNat, by omega⟩
  have HE0 := Lib.hid hE; have HI := Lib.hid hI
  clear hE hI hK
  have hcs : ∀ (a : Addr) (k : FloatKind) (re im : Nat) (m : Mode) (w : World), (store a (.complex k re im) m).run Try.prog w = stored Try.prog w a (.complex k re im) m := fun a k re im m w => run_store Try.prog w a _ m rfl
  have HX := Lib.hid hx; have LX := Lib.hid ln
  clear hx ln
  obtain ⟨er, her⟩ : ∃ er, er = errN ⟨c, h, x, ls⟩ := ⟨_, rfl⟩
  have HER := Lib.hid her
  clear her
  go_enter Try.func74, Try.ntmps74
  go_wp2_with fail
  refine (shapes_any c h x A cA n ls _ (HX.out.below (below_two w _ _)) LX.out hn).mono ?_
  rintro e w1 ⟨A1, k1, n1, rfl, hn1, hR, hb, hd1, hd2⟩
  rw [← HER.out]
  have B1 := Lib.hid (chain (below_two w _ _) hb)
  have N1 := Lib.hid (((NB.new w c h x (.slice A n cA)).alloc (.cells #[.int .i64 0, .int .i64 0, .int .i64 0, .int .i64 0, .int .i64 0, .int .i64 0, .int .i64 0, .int .i64 0, .complex .f64 0 0] 121)).below hb)
  have Z1 := Lib.hid ((zb_two w (.cells #[.int .i64 c, .int .i64 h, .int .i64 x, .slice A n cA] 26)).below hb)
  obtain ⟨c0, c1, c2, c3⟩ := N1.out.cells
  obtain ⟨y0, y1, y2, y3, y4, y5, y6, y7, y8⟩ := Z1.out.cells
  have f0 := Z1.out.frozen 0
  have f1 := Z1.out.frozen 1
  have f2 := Z1.out.frozen 2
  have f3 := Z1.out.frozen 3
  have f4 := Z1.out.frozen 4
  have f5 := Z1.out.frozen 5
  have f6 := Z1.out.frozen 6
  have f7 := Z1.out.frozen 7
  have f8 := Z1.out.frozen 8
  have lz1 := Z1.out.lt
  clear hb hd1 hd2
  have h0 : er = 0 := by rw [HER.out, HE0.out]
  subst h0
  have jn : j < n := by have := HI.out.2; rw [← LX.out] at this; omega
  have d0 : decide ((j : Int) < 0) = false := decide_eq_false (by omega)
  have d1 : decide ((n : Int) ≤ (j : Int)) = false := decide_eq_false (by omega)
  have d2 : decide (n ≤ j) = false := by simp; omega
  have he := HER.out.symm
  rw [shN_ok he] at hR hn1
  rw [sh_len, ← LX.out] at hn1
  obtain ⟨bS, oS, rfl, hlS, hcS⟩ := hR (by rw [sh_len]; omega)
  obtain ⟨b1, o1, rfl, l1, q⟩ := HX.out (by rw [← LX.out]; omega)
  have hjl : j < ls.length := by rw [← LX.out]; exact jn
  obtain ⟨l, hle⟩ : ∃ l, l = ls.getD j Ly.z := ⟨_, rfl⟩
  have hq := (q j hjl).below B1.out l1
  rw [← hle] at hq
  have hl : ls[j]? = some l := by rw [hle]; exact get_ly hjl
  have hKe : K = ⟨l, endS ⟨c, h, x⟩ (ls.take j), outS (endS ⟨c, h, x⟩ (ls.take j)) l, sumW ⟨c, h, x⟩ (ls.take j)⟩ := by rw [HK.out, at_some he hl]
  have hKl : l = K.l := by rw [hKe]
  have g1 := sh_get ls ⟨c, h, x⟩ j (by omega)
  rw [show endS ⟨c, h, x⟩ (ls.take j) = K.i by rw [hKe]] at g1
  have g2 := sh_get ls ⟨c, h, x⟩ (j + 1) (by omega)
  rw [show endS ⟨c, h, x⟩ (ls.take (j + 1)) = K.u by rw [hKe, end_next hl]] at g2
  rw [hKl] at hq
  obtain ⟨p0, p1, p2, p3⟩ := hq
  obtain ⟨m, hm⟩ : ∃ m, m = j + 1 := ⟨_, rfl⟩
  obtain ⟨a0, a1, a2⟩ := sh_at hcS g1
  obtain ⟨a3, a4, a5⟩ := sh_at hcS g2
  rw [← hm] at a3 a4 a5
  have ja : (0 : Int) ≤ (j : Int) := by omega
  have jb : (j : Int) < (n1 : Int) := by omega
  have jb' : j < n1 := by omega
  have jc : (j : Int) < (n : Int) := by omega
  have ma : (0 : Int) ≤ (m : Int) := by omega
  have mb : (m : Int) < (n1 : Int) := by omega
  have mb' : m < n1 := by omega
  have v1 : IntKind.i64.wrap ((j : Int) + 1) = (m : Int) := next_i64 hm (Nat.lt_succ_self j) (by omega)
  have v2 : wrap64 ((j : Int) + 1) = (m : Int) := next_wrap hm (Nat.lt_succ_self j) (by omega)
  have l1r : b1 < w1.heap.size := Nat.lt_of_lt_of_le l1 B1.out.size
  clear hKe hKl g1 g2 hl hle he hn1 hm hcS q l1
  go_wp2_with fail
  refine (of_any K.u.c K.u.h K.u.x p _).mono ?_
  rintro e w2 ⟨rfl, hb⟩
  rw [show hasB K.u.c K.u.h K.u.x p = true from HH.out, HCH.out, ← HCOL.out, ← HROW.out]
  have B2 := Lib.hid (chain B1.out hb)
  have Z2 := Lib.hid (Z1.out.below hb)
  have N2 := Lib.hid (N1.out.below hb)
  have r0 := (hb.cell (p := ⟨bS, oS + j * 3, none⟩) hlS).trans a0
  have r1 := (hb.cell (p := ⟨bS, oS + j * 3 + 1, none⟩) hlS).trans a1
  have r2 := (hb.cell (p := ⟨bS, oS + j * 3 + 2, none⟩) hlS).trans a2
  have s0 := (hb.cell (p := ⟨b1, o1 + j * 4, none⟩) l1r).trans p0
  have s1 := (hb.cell (p := ⟨b1, o1 + j * 4 + 1, none⟩) l1r).trans p1
  have s2 := (hb.cell (p := ⟨b1, o1 + j * 4 + 2, none⟩) l1r).trans p2
  have s3 := (hb.cell (p := ⟨b1, o1 + j * 4 + 3, none⟩) l1r).trans p3
  have lS2 : bS < w2.heap.size := Nat.lt_of_lt_of_le hlS hb.size
  have lb2 : b1 < w2.heap.size := Nat.lt_of_lt_of_le l1r hb.size
  clear hb y0 f0 y1 f1 y2 f2 y3 f3 y4 f4 y5 f5 y6 f6 y7 f7 y8 f8 c0 c1 c2 c3 lz1 a0 a1 a2 a3 a4 a5 p0 p1 p2 p3 l1r v1 v2
  obtain ⟨c0, c1, c2, c3⟩ := N2.out.cells
  obtain ⟨y0, y1, y2, y3, y4, y5, y6, y7, y8⟩ := Z2.out.cells
  have f0 := Z2.out.frozen 0
  have f1 := Z2.out.frozen 1
  have f2 := Z2.out.frozen 2
  have f3 := Z2.out.frozen 3
  have f4 := Z2.out.frozen 4
  have f5 := Z2.out.frozen 5
  have f6 := Z2.out.frozen 6
  have f7 := Z2.out.frozen 7
  have f8 := Z2.out.frozen 8
  have lz2 := Z2.out.lt
  have cv1 : ∀ w : World, (convert 3 128 (.int .i64 (cx : Int))).run Try.prog w = .ok (.float .f64 (fl cx)) w := fun w => run_convert_int_float w 3 128 .i64 .f64 _ (by kernel_rfl) Try.underlying128
  have cv2 : ∀ w : World, (convert 3 128 (.int .i64 (cy : Int))).run Try.prog w = .ok (.float .f64 (fl cy)) w := fun w => run_convert_int_float w 3 128 .i64 .f64 _ (by kernel_rfl) Try.underlying128
  by_cases k3 : K.l.k = 3
  · have e3 : (K.l.k == 3) = true := by rw [k3]; rfl
    have hS := HST.out
    rw [if_pos k3] at hS
    rw [hS] at hcx hcy z1 z2 z3 z4
    clear k3 hS
    go_wp2_with fail
    go_region
    go_wp2_with fail
    exact bodyPost_ret (v := .agg #[.int .i64 K.l.k, .int .i64 K.l.o, .int .i64 K.l.s, .int .i64 K.l.t, .int .i64 K.i.c, .int .i64 K.i.h, .int .i64 K.i.x, .int .i64 (ch : Int), .complex .f64 (fl cx) (fl cy)]) (by simp [results, Try.results74, go_sem, y0, y1, y2, y3, y4, y5, y6, y7, y8, lz2]) rfl ⟨rfl, (chain_alloc (below_set9 B2.out (by omega) _ _ _ _ _ _ _ _ _) _).drew⟩
  · have e3 : (K.l.k == 3) = false := by simpa using k3
    have hS := HST.out
    rw [if_neg k3] at hS
    rw [hS] at hcx hcy z1 z2 z3 z4
    clear k3 hS
    go_wp2_with fail
    go_region
    go_wp2_with fail
    exact bodyPost_ret (v := .agg #[.int .i64 K.l.k, .int .i64 K.l.o, .int .i64 K.l.s, .int .i64 K.l.t, .int .i64 K.i.c, .int .i64 K.i.h, .int .i64 K.i.x, .int .i64 (ch : Int), .complex .f64 (fl cx) (fl cy)]) (by simp [results, Try.results74, go_sem, y0, y1, y2, y3, y4, y5, y6, y7, y8, lz2]) rfl ⟨rfl, (chain_alloc (below_set9 B2.out (by omega) _ _ _ _ _ _ _ _ _) _).drew⟩

end Go.Proofs.Ytklgjhldebdegaa
