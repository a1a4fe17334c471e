/-
  What the document's own Weights, Products, Right and All answer.
-/
import Derived.Test.YtnfmpladdfgadaaRefH
namespace Go.Proofs.Ytnfmpladdfgadaa
open Go.RowKit

theorem at_far {c h x : Int} {ls : List Ly} {i : Int} (hi : ¬ (0 ≤ i ∧ i < (ls.length : Int))) : atN ⟨c, h, x, ls⟩ i = Kn.z := by
  by_cases e : errN ⟨c, h, x, ls⟩ = 0
  · exact at_out (by rw [knN_ok e, kn_len]; exact hi)
  · exact at_none e i
theorem kz_w : Kn.z.w = 0 := by decide
theorem kz_p : Kn.z.p = 0 := by decide
theorem kz_a : Kn.z.a = 0 := rfl

set_option maxHeartbeats 1000000 in
theorem rright_of (c h x : Int) (A : Option Addr) (cA n : Nat) (ls : List Ly) (w : World) (hx : Rl w A ls) (ln : n = ls.length) (hn : n ≤ 1000) :
    Calls Try.prog 22 #[.agg #[.int .i64 c, .int .i64 h, .int .i64 x, .slice A n cA]] w fun e w' => e = .returned (.bool (errN ⟨c, h, x, ls⟩ == 0)) ∧ Below w.heap.size w w' := by
  have HX := Lib.hid hx; have LX := Lib.hid ln
  clear hx ln
  obtain ⟨er, her⟩ : ∃ er, er = errN ⟨c, h, x, ls⟩ := ⟨_, rfl⟩
  rw [← her]
  have HER := Lib.hid her
  clear her
  go_enter Try.func22, Try.ntmps22
  go_wp2_with fail
  refine (rshapes_any c h x A cA n ls _ (HX.out.below ((Below.refl _ w).alloc (Nat.le_refl _) _)) LX.out hn).mono ?_
  rintro e w1 ⟨A1, k1, n1, rfl, hn1, hR, hb, hd1, hd2⟩
  have B1 := Lib.hid (chain ((Below.refl w.heap.size w).alloc (Nat.le_refl _) _) hb)
  have N1 := Lib.hid ((NB.new w c h x (.slice A n cA)).below hb)
  obtain ⟨c0, c1, c2, c3⟩ := N1.out.cells
  clear hb hd1 hd2
  rw [← HER.out]
  clear hn1 hR
  go_wp2_with fail
  go_ret
  exact ⟨rfl, B1.out⟩

set_option maxHeartbeats 4000000 in
set_option maxRecDepth 100000 in
theorem rproducts_of (c h x : Int) (A : Option Addr) (cA n : Nat) (ls : List Ly) (i : Int) (w : World) (hx : Rl w A ls) (ln : n = ls.length) (hn : n ≤ 1000) :
    Calls Try.prog 24 #[.agg #[.int .i64 c, .int .i64 h, .int .i64 x, .slice A n cA], .int .i64 i] w fun e w' => e = .returned (.int .i64 (atN ⟨c, h, x, ls⟩ i).p) ∧ Below w.heap.size w w' := by
  have HX := Lib.hid hx; have LX := Lib.hid ln
  clear hx ln
  obtain ⟨er, her⟩ : ∃ er, er = errN ⟨c, h, x, ls⟩ := ⟨_, rfl⟩
  have HER := Lib.hid her
  clear her
  go_enter Try.func24, Try.ntmps24
  go_wp2_with fail
  refine (rshapes_any c h x A cA n ls _ (HX.out.below ((Below.refl _ w).alloc (Nat.le_refl _) _)) LX.out hn).mono ?_
  rintro e w1 ⟨A1, k1, n1, rfl, hn1, hR, hb, hd1, hd2⟩
  have B1 := Lib.hid (chain ((Below.refl w.heap.size w).alloc (Nat.le_refl _) _) hb)
  have N1 := Lib.hid ((NB.new w c h x (.slice A n cA)).below hb)
  obtain ⟨c0, c1, c2, c3⟩ := N1.out.cells
  clear hb hd1 hd2
  rw [← HER.out]
  by_cases h0 : ¬ er = 0
  · have b0 : (er != 0) = true := by simpa using h0
    have HZ : Hid ((atN ⟨c, h, x, ls⟩ i).p = 0) := by rw [at_none (by rw [← HER.out]; exact h0)]; exact kz_p
    clear h0 hn1 hR
    go_wp2_with fail
    go_ret
    exact ⟨ret_int HZ.out.symm, B1.out⟩
  have h0 : er = 0 := by omega
  subst h0
  by_cases i0 : i < 0
  · have d0 : decide (i < 0) = true := decide_eq_true i0
    have HZ : Hid ((atN ⟨c, h, x, ls⟩ i).p = 0) := by rw [at_far (by omega)]; exact kz_p
    clear hn1 hR
    go_wp2_with fail
    go_ret
    exact ⟨ret_int HZ.out.symm, B1.out⟩
  have d0 : decide (i < 0) = false := decide_eq_false i0
  by_cases i1 : (n : Int) ≤ i
  · have d1 : decide ((n : Int) ≤ i) = true := decide_eq_true i1
    have HZ : Hid ((atN ⟨c, h, x, ls⟩ i).p = 0) := by rw [at_far (by rw [← LX.out]; omega)]; exact kz_p
    clear hn1 hR
    go_wp2_with fail
    go_ret
    exact ⟨ret_int HZ.out.symm, B1.out⟩
  have d1 : decide ((n : Int) ≤ i) = false := decide_eq_false i1
  obtain ⟨j, rfl⟩ : ∃ j : Nat, i = j := ⟨i.toNat, by omega⟩
  have jn : j < n := by omega
  have he := HER.out.symm
  rw [shN_ok he] at hR hn1
  rw [sh_len, ← LX.out] at hn1
  obtain ⟨bS, oS, rfl, hlS, hcS⟩ := hR (by rw [sh_len]; omega)
  obtain ⟨b1, o1, rfl, l1, q⟩ := HX.out (by rw [← LX.out]; omega)
  have hjl : j < ls.length := by rw [← LX.out]; exact jn
  obtain ⟨l, hle⟩ : ∃ l, l = ls.getD j Ly.z := ⟨_, rfl⟩
  have hq := (q j hjl).below B1.out l1
  rw [← hle] at hq
  obtain ⟨p3, p4, p5, p6⟩ := hq
  have hl : ls[j]? = some l := by rw [hle]; exact get_ly hjl
  obtain ⟨lf1, lf2, lf3⟩ := layer_facts he hl
  obtain ⟨S, hSe⟩ : ∃ S, S = endS ⟨c, h, x⟩ (ls.take j) := ⟨_, rfl⟩
  obtain ⟨T, hTe⟩ : ∃ T, T = outS S l := ⟨_, rfl⟩
  rw [← hSe] at lf2 lf3
  have g1 := sh_get ls ⟨c, h, x⟩ j (by omega)
  rw [← hSe] at g1
  have g2 := sh_get ls ⟨c, h, x⟩ (j + 1) (by omega)
  rw [end_next hl, ← hSe, ← hTe] at g2
  obtain ⟨a0, a1, a2⟩ := sh_at hcS g1
  obtain ⟨a3, a4, a5⟩ := sh_at hcS g2
  have a6 := c3
  have hp : (atN ⟨c, h, x, ls⟩ (j : Int)).p = pI S T l := by rw [at_some he hl, ← hSe, ← hTe]; rfl
  obtain ⟨e2, he2⟩ : ∃ e2, pI S T l = e2 := ⟨_, rfl⟩
  rw [he2] at hp
  have HP := Lib.hid hp
  have KOK : Hid (KnOk ⟨l, S, T, 0⟩) := by rw [hTe]; exact kn_ok 0 lf2 lf1 lf3
  have HE2 := Lib.hid he2
  have a7 := p3
  have a8 := p4
  have a9 := p5
  have a10 := p6
  obtain ⟨m, hm⟩ : ∃ m, m = j + 1 := ⟨_, rfl⟩
  rw [← hm] at a3 a4 a5
  have hln : w.heap.size < w1.heap.size := N1.out.lt
  have hlb : b1 < w1.heap.size := Nat.lt_of_lt_of_le l1 B1.out.size
  have ja : (0 : Int) ≤ (j : Int) := by omega
  have jb : (j : Int) < (n1 : Int) := by omega
  have jc : (j : Int) < (n : Int) := by omega
  have ma : (0 : Int) ≤ (m : Int) := by omega
  have mb : (m : Int) < (n1 : Int) := by omega
  have jb' : j < n1 := by omega
  have mb' : m < n1 := by omega
  have v1 : IntKind.i64.wrap ((j : Int) + 1) = (m : Int) := next_i64 hm (Nat.lt_succ_self j) (by omega)
  have v2 : wrap64 ((j : Int) + 1) = (m : Int) := next_wrap hm (Nat.lt_succ_self j) (by omega)
  have HC0 : Hid (Below w1.heap.size w1 w1.drew) := below_drew w1
  clear hp he2 hSe hTe lf1 lf2 lf3 g1 g2 hcS hl hle q he hn1 hm p3 p4 p5 p6 c0 c1 c2
  go_wp2_with fail
  have tok1 : True := trivial
  go_region_held3 (fun w' => w'.cell? ⟨bS, oS + j * 3, none⟩ = some (.int .i64 S.c) ∧ w'.cell? ⟨bS, oS + j * 3 + 1, none⟩ = some (.int .i64 S.h) ∧ w'.cell? ⟨bS, oS + j * 3 + 2, none⟩ = some (.int .i64 S.x) ∧ w'.cell? ⟨bS, oS + m * 3, none⟩ = some (.int .i64 T.c) ∧ w'.cell? ⟨bS, oS + m * 3 + 1, none⟩ = some (.int .i64 T.h) ∧ w'.cell? ⟨bS, oS + m * 3 + 2, none⟩ = some (.int .i64 T.x) ∧ w'.cell? ⟨w.heap.size, 3, none⟩ = some (.slice (some ⟨b1, o1, none⟩) n cA) ∧ w'.cell? ⟨b1, o1 + j * 4, none⟩ = some (.int .i64 l.k) ∧ w'.cell? ⟨b1, o1 + j * 4 + 1, none⟩ = some (.int .i64 l.o) ∧ w'.cell? ⟨b1, o1 + j * 4 + 2, none⟩ = some (.int .i64 l.s) ∧ w'.cell? ⟨b1, o1 + j * 4 + 3, none⟩ = some (.int .i64 l.t))
    (first | exact ⟨q0, q1, q2, q3, q4, q5, q6, q7, q8, q9, q10⟩ | go_keep)
    (first
      | ((have _t := tok1; clear tok1; go_at_call 59; (with_reducible refine (rproducts_any S l T 0 e2 KOK.out HE2.out _).mono ?_); rintro e w2 ⟨rfl, hb2⟩
          have HC1 := Lib.hid (HC0.out.trans (hb2.mono HC0.out.size))
          have q0 := (HC1.out.cell (p := ⟨bS, oS + j * 3, none⟩) hlS).trans a0
          have q1 := (HC1.out.cell (p := ⟨bS, oS + j * 3 + 1, none⟩) hlS).trans a1
          have q2 := (HC1.out.cell (p := ⟨bS, oS + j * 3 + 2, none⟩) hlS).trans a2
          have q3 := (HC1.out.cell (p := ⟨bS, oS + m * 3, none⟩) hlS).trans a3
          have q4 := (HC1.out.cell (p := ⟨bS, oS + m * 3 + 1, none⟩) hlS).trans a4
          have q5 := (HC1.out.cell (p := ⟨bS, oS + m * 3 + 2, none⟩) hlS).trans a5
          have q6 := (HC1.out.cell (p := ⟨w.heap.size, 3, none⟩) hln).trans a6
          have q7 := (HC1.out.cell (p := ⟨b1, o1 + j * 4, none⟩) hlb).trans a7
          have q8 := (HC1.out.cell (p := ⟨b1, o1 + j * 4 + 1, none⟩) hlb).trans a8
          have q9 := (HC1.out.cell (p := ⟨b1, o1 + j * 4 + 2, none⟩) hlb).trans a9
          have q10 := (HC1.out.cell (p := ⟨b1, o1 + j * 4 + 3, none⟩) hlb).trans a10
          clear hb2))
      | fail)
  go_wp2_with fail
  go_ret
  exact ⟨ret_int HP.out.symm, chain B1.out HC1.out⟩

set_option maxHeartbeats 8000000 in
set_option maxRecDepth 100000 in
theorem rweights_of (c h x : Int) (A : Option Addr) (cA n : Nat) (ls : List Ly) (i : Int) (w : World) (hx : Rl w A ls) (ln : n = ls.length) (hn : n ≤ 1000) :
    Calls Try.prog 17 #[.agg #[.int .i64 c, .int .i64 h, .int .i64 x, .slice A n cA], .int .i64 i] w fun e w' => e = .returned (.tuple #[.int .i64 (atN ⟨c, h, x, ls⟩ i).a, .int .i64 (atN ⟨c, h, x, ls⟩ i).w]) ∧ Below w.heap.size w w' := by
  have HX := Lib.hid hx; have LX := Lib.hid ln
  clear hx ln
  obtain ⟨er, her⟩ : ∃ er, er = errN ⟨c, h, x, ls⟩ := ⟨_, rfl⟩
  have HER := Lib.hid her
  clear her
  go_enter Try.func17, Try.ntmps17
  go_wp2_with fail
  refine (rshapes_any c h x A cA n ls _ (HX.out.below ((Below.refl _ w).alloc (Nat.le_refl _) _)) LX.out hn).mono ?_
  rintro e w1 ⟨A1, k1, n1, rfl, hn1, hR, hb, hd1, hd2⟩
  have B1 := Lib.hid (chain ((Below.refl w.heap.size w).alloc (Nat.le_refl _) _) hb)
  have N1 := Lib.hid ((NB.new w c h x (.slice A n cA)).below hb)
  obtain ⟨c0, c1, c2, c3⟩ := N1.out.cells
  clear hb hd1 hd2
  rw [← HER.out]
  by_cases h0 : ¬ er = 0
  · have b0 : (er != 0) = true := by simpa using h0
    have HZ : Hid (atN ⟨c, h, x, ls⟩ i = Kn.z) := at_none (by rw [← HER.out]; exact h0) i
    clear h0 hn1 hR
    go_wp2_with fail
    go_ret2
    exact ⟨by rw [HZ.out, kz_w]; rfl, B1.out⟩
  have h0 : er = 0 := by omega
  subst h0
  by_cases i0 : i < 0
  · have d0 : decide (i < 0) = true := decide_eq_true i0
    have HZ : Hid (atN ⟨c, h, x, ls⟩ i = Kn.z) := at_far (by omega)
    clear hn1 hR
    go_wp2_with fail
    go_ret2
    exact ⟨by rw [HZ.out, kz_w]; rfl, B1.out⟩
  have d0 : decide (i < 0) = false := decide_eq_false i0
  by_cases i1 : (n : Int) ≤ i
  · have d1 : decide ((n : Int) ≤ i) = true := decide_eq_true i1
    have HZ : Hid (atN ⟨c, h, x, ls⟩ i = Kn.z) := at_far (by rw [← LX.out]; omega)
    clear hn1 hR
    go_wp2_with fail
    go_ret2
    exact ⟨by rw [HZ.out, kz_w]; rfl, B1.out⟩
  have d1 : decide ((n : Int) ≤ i) = false := decide_eq_false i1
  obtain ⟨j, rfl⟩ : ∃ j : Nat, i = j := ⟨i.toNat, by omega⟩
  have jn : j < n := by omega
  have he := HER.out.symm
  rw [shN_ok he] at hR hn1
  rw [sh_len, ← LX.out] at hn1
  obtain ⟨bS, oS, rfl, hlS, hcS⟩ := hR (by rw [sh_len]; omega)
  obtain ⟨b1, o1, rfl, l1, q⟩ := HX.out (by rw [← LX.out]; omega)
  have hln : w.heap.size < w1.heap.size := N1.out.lt
  have hlb : b1 < w1.heap.size := Nat.lt_of_lt_of_le l1 B1.out.size
  have HCS := Lib.hid hcS; have HQ := Lib.hid q; have HEE := Lib.hid he
  have HN1 := Lib.hid hn1
  clear hcS q he hn1 c0 c1 c2 c3
  have hS0 := (ok_all HEE.out).1
  have hAll := (ok_all HEE.out).2.1
  have hFit := (ok_all HEE.out).2.2.1
  have HS0 := Lib.hid hS0; have HAll := Lib.hid hAll; have HFit := Lib.hid hFit
  clear hS0 hAll hFit
  have c3 := N1.out.cells.2.2.2
  have d2 : decide (n ≤ j) = false := by simp; omega
  go_wp2_with fail
  clear c3
  go_loopw [8, 9] (fun a i wr => ∃ k : Nat, k ≤ j ∧ a = .int .i64 (sumW ⟨c, h, x⟩ (ls.take k)) ∧ i = .int .i64 k ∧ Hid (Below w1.heap.size w1 wr)) (fun _ i _ => j - (intOf i).toNat)
  case atStart => exact ⟨0, Nat.zero_le _, rfl, rfl, Below.refl _ _⟩
  case round =>
    obtain ⟨k, hk, rfl, rfl, BW⟩ := hrel
    have hkl : k < ls.length := by rw [← LX.out]; omega
    have N3 := Lib.hid (N1.out.below BW.out)
    have a3 := N3.out.cells.2.2.2
    obtain ⟨l, hle⟩ : ∃ l, l = ls.getD k Ly.z := ⟨_, rfl⟩
    have hq := (HQ.out k hkl).below (chain B1.out BW.out) l1
    rw [← hle] at hq
    obtain ⟨a4, a5, a6, a7⟩ := hq
    have hl : ls[k]? = some l := by rw [hle]; exact get_ly hkl
    obtain ⟨lf1, lf2, lf3⟩ := layer_facts HEE.out hl
    obtain ⟨S, hSe⟩ : ∃ S, S = endS ⟨c, h, x⟩ (ls.take k) := ⟨_, rfl⟩
    rw [← hSe] at lf2 lf3
    have g1 := sh_get ls ⟨c, h, x⟩ k (by omega)
    rw [← hSe] at g1
    obtain ⟨z0, z1, z2⟩ := sh_at HCS.out g1
    have a0 := (BW.out.cell (p := ⟨bS, oS + k * 3, none⟩) hlS).trans z0
    have a1 := (BW.out.cell (p := ⟨bS, oS + k * 3 + 1, none⟩) hlS).trans z1
    have a2 := (BW.out.cell (p := ⟨bS, oS + k * 3 + 2, none⟩) hlS).trans z2
    have KOK : Hid (KnOk ⟨l, S, outS S l, 0⟩) := kn_ok 0 lf2 lf1 lf3
    obtain ⟨e1, he1⟩ : ∃ e1, wI S l = e1 := ⟨_, rfl⟩
    have bw := KOK.out.w
    rw [show Kn.w ⟨l, S, outS S l, 0⟩ = e1 from he1] at bw
    obtain ⟨bw1, bw2⟩ := bw
    have HE1 := Lib.hid he1; have HSE := Lib.hid hSe; have HL := Lib.hid hl
    have bd := sum_bd (s := ⟨c, h, x⟩) HS0.out (all_take HAll.out k) (fit_take HFit.out k) (by rw [List.length_take]; omega)
    have W1 : Hid (sumW ⟨c, h, x⟩ (ls.take (k + 1)) = sumW ⟨c, h, x⟩ (ls.take k) + e1) := by
      show _ = _
      rw [w_next hl, ← hSe, he1]
    have WK : Hid ((atN ⟨c, h, x, ls⟩ (k : Int)).a = sumW ⟨c, h, x⟩ (ls.take k) ∧ (atN ⟨c, h, x, ls⟩ (k : Int)).w = e1) := by
      show _ ∧ _
      rw [at_some HEE.out hl, ← hSe]; exact ⟨rfl, he1⟩
    obtain ⟨a, hae⟩ : ∃ a, a = sumW ⟨c, h, x⟩ (ls.take k) := ⟨_, rfl⟩
    rw [← hae] at bd W1 WK ⊢
    obtain ⟨bd1, bd2, _, _⟩ := bd
    have V1 : Hid (IntKind.i64.wrap (a + e1) = a + e1) := IntWalk.i64_in _ (by omega)
    have HC0 : Hid (Below wr.heap.size wr wr.drew) := below_drew wr
    have ka : (0 : Int) ≤ (k : Int) := by omega
    have kn1 : k < n1 := by have := HN1.out; omega
    have kb : (k : Int) < (n1 : Int) := by omega
    have kc : (k : Int) < (n : Int) := by omega
    have hlS' : bS < wr.heap.size := Nat.lt_of_lt_of_le hlS BW.out.size
    have hln' : w.heap.size < wr.heap.size := Nat.lt_of_lt_of_le hln BW.out.size
    have hlb' : b1 < wr.heap.size := Nat.lt_of_lt_of_le hlb BW.out.size
    clear he1 hSe hl hle lf1 lf2 lf3 g1 z0 z1 z2 hae
    by_cases hlt : k < j
    · have kj : (k : Int) < (j : Int) := by omega
      go_wp2_with fail
      have tok1 : True := trivial
      go_region_held3 (fun w' => w'.cell? ⟨bS, oS + k * 3, none⟩ = some (.int .i64 S.c) ∧ w'.cell? ⟨bS, oS + k * 3 + 1, none⟩ = some (.int .i64 S.h) ∧ w'.cell? ⟨bS, oS + k * 3 + 2, none⟩ = some (.int .i64 S.x) ∧ w'.cell? ⟨w.heap.size, 3, none⟩ = some (.slice (some ⟨b1, o1, none⟩) n cA) ∧ w'.cell? ⟨b1, o1 + k * 4, none⟩ = some (.int .i64 l.k) ∧ w'.cell? ⟨b1, o1 + k * 4 + 1, none⟩ = some (.int .i64 l.o) ∧ w'.cell? ⟨b1, o1 + k * 4 + 2, none⟩ = some (.int .i64 l.s) ∧ w'.cell? ⟨b1, o1 + k * 4 + 3, none⟩ = some (.int .i64 l.t))
        (first | exact ⟨q0, q1, q2, q3, q4, q5, q6, q7⟩ | go_keep)
        (first
          | ((have _t := tok1; clear tok1; go_at_call 58; (with_reducible refine (rweights_any S l _ 0 e1 KOK.out HE1.out _).mono ?_); rintro e w2 ⟨rfl, hb2⟩
              have HC1 := Lib.hid (HC0.out.trans (hb2.mono HC0.out.size))
              have q0 := (HC1.out.cell (p := ⟨bS, oS + k * 3, none⟩) hlS').trans a0
              have q1 := (HC1.out.cell (p := ⟨bS, oS + k * 3 + 1, none⟩) hlS').trans a1
              have q2 := (HC1.out.cell (p := ⟨bS, oS + k * 3 + 2, none⟩) hlS').trans a2
              have q3 := (HC1.out.cell (p := ⟨w.heap.size, 3, none⟩) hln').trans a3
              have q4 := (HC1.out.cell (p := ⟨b1, o1 + k * 4, none⟩) hlb').trans a4
              have q5 := (HC1.out.cell (p := ⟨b1, o1 + k * 4 + 1, none⟩) hlb').trans a5
              have q6 := (HC1.out.cell (p := ⟨b1, o1 + k * 4 + 2, none⟩) hlb').trans a6
              have q7 := (HC1.out.cell (p := ⟨b1, o1 + k * 4 + 3, none⟩) hlb').trans a7
              clear hb2))
          | fail)
      rw [V1.out]
      clear q0 q1 q2 q3 q4 q5 q6 q7 a0 a1 a2 a3 a4 a5 a6 a7
      go_wp2_with fail
      go_roundw
      case rel => exact ⟨k + 1, by omega, by rw [W1.out], by go_num, chain BW.out HC1.out⟩
      case measure => simp [intOf]; omega
    · obtain rfl : k = j := by omega
      go_wp2_with fail
      have tok1 : True := trivial
      go_region_held3 (fun w' => w'.cell? ⟨bS, oS + k * 3, none⟩ = some (.int .i64 S.c) ∧ w'.cell? ⟨bS, oS + k * 3 + 1, none⟩ = some (.int .i64 S.h) ∧ w'.cell? ⟨bS, oS + k * 3 + 2, none⟩ = some (.int .i64 S.x) ∧ w'.cell? ⟨w.heap.size, 3, none⟩ = some (.slice (some ⟨b1, o1, none⟩) n cA) ∧ w'.cell? ⟨b1, o1 + k * 4, none⟩ = some (.int .i64 l.k) ∧ w'.cell? ⟨b1, o1 + k * 4 + 1, none⟩ = some (.int .i64 l.o) ∧ w'.cell? ⟨b1, o1 + k * 4 + 2, none⟩ = some (.int .i64 l.s) ∧ w'.cell? ⟨b1, o1 + k * 4 + 3, none⟩ = some (.int .i64 l.t))
        (first | exact ⟨q0, q1, q2, q3, q4, q5, q6, q7⟩ | go_keep)
        (first
          | ((have _t := tok1; clear tok1; go_at_call 58; (with_reducible refine (rweights_any S l _ 0 e1 KOK.out HE1.out _).mono ?_); rintro e w2 ⟨rfl, hb2⟩
              have HC1 := Lib.hid (HC0.out.trans (hb2.mono HC0.out.size))
              have q0 := (HC1.out.cell (p := ⟨bS, oS + k * 3, none⟩) hlS').trans a0
              have q1 := (HC1.out.cell (p := ⟨bS, oS + k * 3 + 1, none⟩) hlS').trans a1
              have q2 := (HC1.out.cell (p := ⟨bS, oS + k * 3 + 2, none⟩) hlS').trans a2
              have q3 := (HC1.out.cell (p := ⟨w.heap.size, 3, none⟩) hln').trans a3
              have q4 := (HC1.out.cell (p := ⟨b1, o1 + k * 4, none⟩) hlb').trans a4
              have q5 := (HC1.out.cell (p := ⟨b1, o1 + k * 4 + 1, none⟩) hlb').trans a5
              have q6 := (HC1.out.cell (p := ⟨b1, o1 + k * 4 + 2, none⟩) hlb').trans a6
              have q7 := (HC1.out.cell (p := ⟨b1, o1 + k * 4 + 3, none⟩) hlb').trans a7
              clear hb2))
          | fail)
      go_wp2_with fail
      go_ret2
      exact ⟨by rw [WK.out.1, WK.out.2]; rfl, chain B1.out (chain BW.out HC1.out)⟩

end Go.Proofs.Ytnfmpladdfgadaa
