/-
  What the laws of this seat stand on, part 9.
-/
import Derived.Test.YtklgjhldebdegaaB08
import Derived.Deep.QuietTactic
import Derived.BigQuiet
import Derived.StillTailTactics
import Derived.Deep.LoopGhost
import Derived.Deep.RegionHeld3
import Derived.Laws.StructEq
namespace Go.Proofs.Ytklgjhldebdegaa
open Go.RowKit


/-- A stage of products, and the last stage, as values. -/
def lastV (m : Int) : Value := .iface 59 (.agg #[.int .i64 m])
def prodV (c h x : Int) (A : Option Addr) (n cA : Nat) (a : Int) (z : UInt64) (l f i o : Int) : Value := .iface 61 (.agg #[.int .i64 c, .int .i64 h, .int .i64 x, .slice A n cA, .int .i64 a, .int .u64 (uz z), .int .i64 l, .int .i64 f, .int .i64 i, .int .i64 o])
/-- What find hands out. -/
def TalkIs (c h x : Int) (ls : List Ly) (A : Option Addr) (n cA : Nat) (a : Int) (z : UInt64) (s : Int) (V : Value) : Prop :=
  (isSt ⟨c, h, x, ls⟩ s = false ∧ V = .nilIface) ∨
  (isSt ⟨c, h, x, ls⟩ s = true ∧ s = ((stagesN ⟨c, h, x, ls⟩).length : Int) ∧ V = lastV (inN ⟨c, h, x, ls⟩ s)) ∨
  (isSt ⟨c, h, x, ls⟩ s = true ∧ ∃ k : Nat, s = (k : Int) ∧ k < (stagesN ⟨c, h, x, ls⟩).length ∧ V = prodV c h x A n cA a z ((stgN ⟨c, h, x, ls⟩ k : Nat) : Int) ((fromN ⟨c, h, x, ls⟩ k : Nat) : Int) (inN ⟨c, h, x, ls⟩ (k : Int)) (atN ⟨c, h, x, ls⟩ ((stgN ⟨c, h, x, ls⟩ k : Nat) : Int)).u.n)
theorem talk_prod {c h x : Int} {ls : List Ly} (A : Option Addr) (n cA : Nat) (a : Int) (z : UInt64) {j m m1 f : Nat} {kn un : Int} (e : errN ⟨c, h, x, ls⟩ = 0) (hs : j < (stagesN ⟨c, h, x, ls⟩).length) (hm : m = stgN ⟨c, h, x, ls⟩ j) (hm1 : m1 = m + 1) (hf : f = fromN ⟨c, h, x, ls⟩ j)
    (hk : kn = (endS ⟨c, h, x⟩ (ls.take m)).n) (hu : un = (endS ⟨c, h, x⟩ (ls.take m1)).n) : TalkIs c h x ls A n cA a z (j : Int) (prodV c h x A n cA a z (m : Int) (f : Int) kn un) := by
  have is : isSt ⟨c, h, x, ls⟩ (j : Int) = true := isSt_yes ⟨e, by omega, by omega⟩
  have hg := get_ly (stg_at e hs).1
  have e1 : kn = inN ⟨c, h, x, ls⟩ (j : Int) := by rw [in_yes e (by omega), ← hm, hk]
  have e2 : un = (atN ⟨c, h, x, ls⟩ ((stgN ⟨c, h, x, ls⟩ j : Nat) : Int)).u.n := by
    rw [at_some e hg, hu, hm1, hm, run_end c h x ls hg]
  subst hf hm e1 e2
  exact Or.inr (Or.inr ⟨is, j, rfl, hs, rfl⟩)

set_option maxHeartbeats 4000000 in
set_option maxRecDepth 100000 in
theorem find13 (c h x : Int) (A : Option Addr) (cA n : Nat) (ls : List Ly) (a : Int) (z : UInt64) (s : Int) (w : World) (hx : Rl w A ls) (ln : n = ls.length) (hn : n ≤ 60) :
    Calls Try.prog 13 #[.agg #[.int .i64 c, .int .i64 h, .int .i64 x, .slice A n cA], .int .i64 a, .int .u64 (uz z), .int .i64 s] w fun e w' => ∃ V, e = .returned (.tuple #[V, .bool (isSt ⟨c, h, x, ls⟩ s)]) ∧ TalkIs c h x ls A n cA a z s V ∧ Below w.heap.size w w' := by
  obtain ⟨er, her⟩ : ∃ er, er = errN ⟨c, h, x, ls⟩ := ⟨_, rfl⟩
  have HER := Lib.hid her
  have HX := Lib.hid hx; have LX := Lib.hid ln
  have hn1 : n ≤ 1000 := by omega
  clear hx ln her
  go_enter Try.func13, Try.ntmps13
  go_wp2_with fail
  refine (shapes_any c h x A cA n ls _ (HX.out.below ((Below.refl _ w).alloc (Nat.le_refl _) _)) LX.out hn1).mono ?_
  rintro e w1 ⟨A1, k1, n1, rfl, hn1', hR, hb, hd1, hd2⟩
  rw [← HER.out]
  have B1 := Lib.hid (chain ((Below.refl w.heap.size w).alloc (Nat.le_refl _) _) hb)
  have N1 := Lib.hid ((NB.new w c h x (.slice A n cA)).below hb)
  obtain ⟨c0, c1, c2, c3⟩ := N1.out.cells
  have R1 := Lib.hid hR; have L1 := Lib.hid hn1'
  clear hb hR hd1 hd2 hn1'
  go_wp2_with fail
  refine (gstages8 c h x A cA n ls _ (HX.out.below B1.out) LX.out hn).mono ?_
  rintro e w2 ⟨A2, k2, n2, rfl, hn2, hR2, hb, hd1, hd2⟩
  have B2 := Lib.hid (chain B1.out hb)
  have N2 := Lib.hid (N1.out.below hb)
  have R2 := Lib.hid (R1.out.below hb)
  have RS := Lib.hid hR2
  have L2 := Lib.hid hn2
  clear hb hR2 hn2 hd1 hd2 c0 c1 c2 c3 N1 R1 B1
  by_cases h0 : ¬ er = 0
  · have b0 : (er != 0) = true := by simpa using h0
    have E : Hid (isSt ⟨c, h, x, ls⟩ s = false) := isSt_no fun q => h0 (HER.out.trans q.1)
    clear h0
    go_wp2_with fail
    go_ret2
    rw [E.out]
    exact ⟨_, rfl, Or.inl ⟨E.out, rfl⟩, B2.out⟩
  have h0 : er = 0 := by omega
  have b0 : (er != 0) = false := by rw [h0]; rfl
  have HE : Hid (errN ⟨c, h, x, ls⟩ = 0) := HER.out.symm.trans h0
  clear h0
  by_cases s0 : s < 0
  · have d0 : decide (s < 0) = true := decide_eq_true s0
    have E : Hid (isSt ⟨c, h, x, ls⟩ s = false) := isSt_no fun q => by omega
    clear s0
    go_wp2_with fail
    go_ret2
    rw [E.out]
    exact ⟨_, rfl, Or.inl ⟨E.out, rfl⟩, B2.out⟩
  have d0 : decide (s < 0) = false := decide_eq_false s0
  by_cases s1 : (n2 : Int) < s
  · have d1 : decide ((n2 : Int) < s) = true := decide_eq_true s1
    have E : Hid (isSt ⟨c, h, x, ls⟩ s = false) := isSt_no fun q => by have := L2.out; omega
    clear s1 s0
    go_wp2_with fail
    go_ret2
    rw [E.out]
    exact ⟨_, rfl, Or.inl ⟨E.out, rfl⟩, B2.out⟩
  have d1 : decide ((n2 : Int) < s) = false := decide_eq_false s1
  obtain ⟨j, rfl⟩ : ∃ j : Nat, s = j := ⟨s.toNat, by omega⟩
  have jn : j ≤ n2 := by omega
  have IS : Hid (isSt ⟨c, h, x, ls⟩ (j : Int) = true) := isSt_yes ⟨HE.out, by omega, by have := L2.out; omega⟩
  have hR := R2.out
  have hl1 := L1.out
  rw [shN_ok HE.out] at hR hl1
  rw [sh_len, ← LX.out] at hl1
  obtain ⟨bS, oS, rfl, hlS, hcS⟩ := hR (by rw [sh_len]; omega)
  have HCS := Lib.hid hcS
  obtain ⟨c0, c1, c2, c3⟩ := N2.out.cells
  clear s0 s1 hR hcS
  by_cases js : j = n2
  · subst js
    have b1 : ((j : Int) == (j : Int)) = true := by simp
    have d2 : decide (j < j) = false := by simp
    have g2 := sh_get ls ⟨c, h, x⟩ n (by rw [LX.out]; omega)
    obtain ⟨a4, a5, a6⟩ := sh_at HCS.out g2
    obtain ⟨K, hK⟩ : ∃ K, K = endS ⟨c, h, x⟩ (ls.take n) := ⟨_, rfl⟩
    rw [← hK] at a4 a5 a6
    have kr : K.r = true := by
      obtain ⟨r, f3, t, _⟩ := ok_all HE.out
      rw [hK]; exact end_right _ _ r (all_take f3 _) (fit_take t _)
    have E : Hid (inN ⟨c, h, x, ls⟩ (j : Int) = K.n) := by
      show _ = _
      have := in_last HE.out
      rw [← L2.out] at this
      rw [this, hK, List.take_of_length_le (by rw [LX.out]; exact Nat.le_refl _)]
    have PI : Hid (∀ w, Calls Try.prog 19 #[.agg #[.int .i64 K.c, .int .i64 K.h, .int .i64 K.x]] w fun e w' => e = .returned (.int .i64 K.n) ∧ Below w.heap.size w w') := fun w => esize13 K kr w
    have m0 : (0 : Int) ≤ (n : Int) := by omega
    have m1 : (n : Int) < (n1 : Int) := by omega
    have m2 : n < n1 := by omega
    clear hK g2 hl1 kr
    go_wp2_with fail
    refine (PI.out _).mono ?_
    rintro e w4 ⟨rfl, hb4⟩
    have B4 := Lib.hid (chain B2.out hb4)
    clear hb4
    go_wp2_with fail
    go_ret2
    rw [IS.out]
    exact ⟨_, rfl, Or.inr (Or.inl ⟨IS.out, by rw [L2.out], by rw [E.out]; rfl⟩), B4.out⟩
  have js2 : j < n2 := by omega
  have b1 : ((j : Int) == (n2 : Int)) = false := by simp; omega
  have ja : (0 : Int) ≤ (j : Int) := by omega
  have jb : (j : Int) < (n2 : Int) := by omega
  have hs : j < (stagesN ⟨c, h, x, ls⟩).length := by rw [← L2.out]; exact js2
  have HS := Lib.hid hs
  obtain ⟨q1, q2, q3, q4⟩ := stg_at HE.out hs
  obtain ⟨bT, oT, rfl, hlT, hcT⟩ := RS.out (by omega)
  have y0 := in_cell hcT q4
  obtain ⟨m, hm⟩ : ∃ m, m = stgN ⟨c, h, x, ls⟩ j := ⟨_, rfl⟩
  rw [← hm] at y0 q1 q4
  have mn : m < n := by rw [LX.out]; exact q1
  obtain ⟨f, hf⟩ : ∃ f, f = fromN ⟨c, h, x, ls⟩ j := ⟨_, rfl⟩
  obtain ⟨mm, hmm⟩ : ∃ mm, mm = manyN ⟨c, h, x, ls⟩ j := ⟨_, rfl⟩
  have RNG : Hid (rangeN ⟨c, h, x, ls⟩ (j : Int) = ((f : Int), (mm : Int))) := by
    show _ = _
    have r := range_yes hs
    have q1 : 0 ≤ totP (((stagesN ⟨c, h, x, ls⟩).take j).map (atN ⟨c, h, x, ls⟩)) := (tot_bd _ (fun y hy => by obtain ⟨i, _, rfl⟩ := List.mem_map.1 hy; exact at_ok _ _)).2.2.1
    have q2 : 0 ≤ (atN ⟨c, h, x, ls⟩ ((stagesN ⟨c, h, x, ls⟩).getD j 0)).p := (KnOk.p (at_ok _ _)).1
    have e1 : (f : Int) = (rangeN ⟨c, h, x, ls⟩ (j : Int)).1 := by rw [hf]; unfold fromN; rw [r]; show ((totP _).toNat : Int) = totP _; omega
    have e2 : (mm : Int) = (rangeN ⟨c, h, x, ls⟩ (j : Int)).2 := by rw [hmm]; unfold manyN; rw [r]; show ((Kn.p _).toNat : Int) = Kn.p _; omega
    rw [e1, e2]
  have g2 := sh_get ls ⟨c, h, x⟩ m (by omega)
  have g3 := sh_get ls ⟨c, h, x⟩ (m + 1) (by omega)
  obtain ⟨m1, hm1⟩ : ∃ m1, m1 = m + 1 := ⟨_, rfl⟩
  rw [← hm1] at g3
  obtain ⟨a4, a5, a6⟩ := sh_at HCS.out g2
  obtain ⟨a7, a8, a9⟩ := sh_at HCS.out g3
  obtain ⟨K, hK⟩ : ∃ K, K = endS ⟨c, h, x⟩ (ls.take m) := ⟨_, rfl⟩
  obtain ⟨U, hU⟩ : ∃ U, U = endS ⟨c, h, x⟩ (ls.take m1) := ⟨_, rfl⟩
  rw [← hK] at a4 a5 a6
  rw [← hU] at a7 a8 a9
  obtain ⟨r, f3, t, _⟩ := ok_all HE.out
  have kr : K.r = true := by rw [hK]; exact end_right _ _ r (all_take f3 _) (fit_take t _)
  have ur : U.r = true := by rw [hU]; exact end_right _ _ r (all_take f3 _) (fit_take t _)
  obtain ⟨kn, hkn⟩ : ∃ kn, kn = K.n := ⟨_, rfl⟩
  obtain ⟨un, hun⟩ : ∃ un, un = U.n := ⟨_, rfl⟩
  have CK : Hid (∀ w, Calls Try.prog 19 #[.agg #[.int .i64 K.c, .int .i64 K.h, .int .i64 K.x]] w fun e w' => e = .returned (.int .i64 kn) ∧ Below w.heap.size w w') := fun w => by rw [hkn]; exact esize13 K kr w
  have CU : Hid (∀ w, Calls Try.prog 19 #[.agg #[.int .i64 U.c, .int .i64 U.h, .int .i64 U.x]] w fun e w' => e = .returned (.int .i64 un) ∧ Below w.heap.size w w') := fun w => by rw [hun]; exact esize13 U ur w
  have EV : Hid (TalkIs c h x ls A n cA a z (j : Int) (prodV c h x A n cA a z (m : Int) (f : Int) kn un)) := talk_prod A n cA a z HE.out HS.out hm hm1 hf (hkn.trans (congrArg Sh.n hK)) (hun.trans (congrArg Sh.n hU))
  have k0 : (0 : Int) ≤ (m : Int) := by omega
  have k1' : (m : Int) < (n1 : Int) := by omega
  have k2' : m < n1 := by omega
  have k3 : (0 : Int) ≤ (m1 : Int) := by omega
  have k4 : (m1 : Int) < (n1 : Int) := by omega
  have k5 : m1 < n1 := by omega
  have v1 : IntKind.i64.wrap ((m : Int) + 1) = (m1 : Int) := next_i64 hm1 (Nat.lt_succ_self m) (by omega)
  have v2 : wrap64 ((m : Int) + 1) = (m1 : Int) := next_wrap hm1 (Nat.lt_succ_self m) (by omega)
  have V1 := Lib.hid v1; have V2 := Lib.hid v2
  clear hK hU hkn hun kr ur g2 g3 hl1 hm hf hmm hm1 q1 q2 q3 q4 hs hcT js jn r f3 t v1 v2
  go_wp2_with fail
  refine (grange8 c h x A cA n ls (j : Int) (f : Int) (mm : Int) RNG.out _ (HX.out.below B2.out) LX.out hn).mono ?_
  rintro e w4 ⟨rfl, hb4⟩
  have B4 := Lib.hid (chain B2.out hb4)
  have N4 := Lib.hid (N2.out.below hb4)
  replace a4 := (hb4.cell (p := ⟨bS, oS + m * 3, none⟩) hlS).trans a4
  replace a5 := (hb4.cell (p := ⟨bS, oS + m * 3 + 1, none⟩) hlS).trans a5
  replace a6 := (hb4.cell (p := ⟨bS, oS + m * 3 + 2, none⟩) hlS).trans a6
  replace a7 := (hb4.cell (p := ⟨bS, oS + m1 * 3, none⟩) hlS).trans a7
  replace a8 := (hb4.cell (p := ⟨bS, oS + m1 * 3 + 1, none⟩) hlS).trans a8
  replace a9 := (hb4.cell (p := ⟨bS, oS + m1 * 3 + 2, none⟩) hlS).trans a9
  have lS := Nat.lt_of_lt_of_le hlS hb4.size
  clear hb4 c0 c1 c2 c3 N2 y0
  obtain ⟨c0, c1, c2, c3⟩ := N4.out.cells
  have nl := N4.out.lt
  have ln0 := nl; have ln1 := nl; have ln2 := nl; have ln3 := nl
  have l4 := lS; have l5 := lS; have l6 := lS; have l7 := lS; have l8 := lS; have l9 := lS
  have v1 := V1.out; have v2 := V2.out
  clear nl lS
  go_wp2_with fail
  refine wp_region_noPanic ?_
  refine wp_region_held_drew (S := fun w' => w'.cell? ⟨w.heap.size, 0, none⟩ = some (.int .i64 c) ∧ w'.cell? ⟨w.heap.size, 1, none⟩ = some (.int .i64 h) ∧ w'.cell? ⟨w.heap.size, 2, none⟩ = some (.int .i64 x) ∧ w'.cell? ⟨w.heap.size, 3, none⟩ = some (.slice A n cA) ∧ w'.cell? ⟨bS, oS + m * 3, none⟩ = some (.int .i64 K.c) ∧ w'.cell? ⟨bS, oS + m * 3 + 1, none⟩ = some (.int .i64 K.h) ∧ w'.cell? ⟨bS, oS + m * 3 + 2, none⟩ = some (.int .i64 K.x) ∧ w'.cell? ⟨bS, oS + m1 * 3, none⟩ = some (.int .i64 U.c) ∧ w'.cell? ⟨bS, oS + m1 * 3 + 1, none⟩ = some (.int .i64 U.h) ∧ w'.cell? ⟨bS, oS + m1 * 3 + 2, none⟩ = some (.int .i64 U.x)) (by kernel_rfl) ⟨c0, c1, c2, c3, a4, a5, a6, a7, a8, a9⟩ (fun hHeld => ?_)
  have hd := below_drew w4
  replace c0 := (hd.cell (p := ⟨w.heap.size, 0, none⟩) ln0).trans c0
  replace ln0 := Nat.lt_of_lt_of_le ln0 hd.size
  replace c1 := (hd.cell (p := ⟨w.heap.size, 1, none⟩) ln1).trans c1
  replace ln1 := Nat.lt_of_lt_of_le ln1 hd.size
  replace c2 := (hd.cell (p := ⟨w.heap.size, 2, none⟩) ln2).trans c2
  replace ln2 := Nat.lt_of_lt_of_le ln2 hd.size
  replace c3 := (hd.cell (p := ⟨w.heap.size, 3, none⟩) ln3).trans c3
  replace ln3 := Nat.lt_of_lt_of_le ln3 hd.size
  replace a4 := (hd.cell (p := ⟨bS, oS + m * 3, none⟩) l4).trans a4
  replace l4 := Nat.lt_of_lt_of_le l4 hd.size
  replace a5 := (hd.cell (p := ⟨bS, oS + m * 3 + 1, none⟩) l5).trans a5
  replace l5 := Nat.lt_of_lt_of_le l5 hd.size
  replace a6 := (hd.cell (p := ⟨bS, oS + m * 3 + 2, none⟩) l6).trans a6
  replace l6 := Nat.lt_of_lt_of_le l6 hd.size
  replace a7 := (hd.cell (p := ⟨bS, oS + m1 * 3, none⟩) l7).trans a7
  replace l7 := Nat.lt_of_lt_of_le l7 hd.size
  replace a8 := (hd.cell (p := ⟨bS, oS + m1 * 3 + 1, none⟩) l8).trans a8
  replace l8 := Nat.lt_of_lt_of_le l8 hd.size
  replace a9 := (hd.cell (p := ⟨bS, oS + m1 * 3 + 2, none⟩) l9).trans a9
  replace l9 := Nat.lt_of_lt_of_le l9 hd.size
  generalize w4.drew = wq1 at hHeld hd c0 ln0 c1 ln1 c2 ln2 c3 ln3 a4 l4 a5 l5 a6 l6 a7 l7 a8 l8 a9 l9 ⊢
  have BD : Hid (Below wq1.heap.size wq1 wq1) := Below.refl _ _
  refine wpAnyH_take (i := 0) (v := ?vv2001) (by simp only [List.getElem?_toArray, List.getElem?_cons_zero]; rfl) (by kernel_rfl) (by kernel_rfl) (by kernel_rfl) (fun _ _ _ h => h) (Or.inl ⟨by rfl, ?yy2001⟩) (by assumption) ?rr2001
  case yy2001 => (intro w hSw; (try dsimp only at hSw); go_simp; first | done | with_reducible rfl)
  simp only [Act.put, List.setIfInBounds_toArray, List.set_cons_zero, List.set_cons_succ]
  refine wpAnyH_take (i := 1) (v := ?vv2002) (by simp only [List.getElem?_toArray, List.getElem?_cons_zero, List.getElem?_cons_succ]; rfl) (by kernel_rfl) (by kernel_rfl) (by kernel_rfl) (fun _ _ _ h => h) (Or.inl ⟨by rfl, ?yy2002⟩) (by assumption) ?rr2002
  case yy2002 => (intro w hSw; (try dsimp only at hSw); go_simp; first | done | with_reducible rfl)
  simp only [Act.put, List.setIfInBounds_toArray, List.set_cons_zero, List.set_cons_succ]
  refine wpAnyH_take (i := 2) (v := ?vv2003) (by simp only [List.getElem?_toArray, List.getElem?_cons_zero, List.getElem?_cons_succ]; rfl) (by kernel_rfl) (by kernel_rfl) (by kernel_rfl) (fun _ _ _ h => h) (Or.inl ⟨by rfl, ?yy2003⟩) (by assumption) ?rr2003
  case yy2003 => (intro w hSw; (try dsimp only at hSw); go_simp; first | done | with_reducible rfl)
  simp only [Act.put, List.setIfInBounds_toArray, List.set_cons_zero, List.set_cons_succ]
  refine wpAnyH_take (i := 3) (v := ?vv2004) (by simp only [List.getElem?_toArray, List.getElem?_cons_zero, List.getElem?_cons_succ]; rfl) (by kernel_rfl) (by kernel_rfl) (by kernel_rfl) (fun _ _ _ h => h) (Or.inl ⟨by rfl, ?yy2004⟩) (by assumption) ?rr2004
  case yy2004 => (intro w hSw; (try dsimp only at hSw); go_simp; first | done | with_reducible rfl)
  simp only [Act.put, List.setIfInBounds_toArray, List.set_cons_zero, List.set_cons_succ]
  refine wpAnyH_take (i := 4) (v := ?vv2005) (by simp only [List.getElem?_toArray, List.getElem?_cons_zero, List.getElem?_cons_succ]; rfl) (by kernel_rfl) (by kernel_rfl) (by kernel_rfl) (fun _ _ _ h => h) (Or.inl ⟨by rfl, ?yy2005⟩) (by assumption) ?rr2005
  case yy2005 => (intro w hSw; (try dsimp only at hSw); go_simp; first | done | with_reducible rfl)
  simp only [Act.put, List.setIfInBounds_toArray, List.set_cons_zero, List.set_cons_succ]
  refine wpAnyH_take (i := 5) (v := ?vv2006) (by simp only [List.getElem?_toArray, List.getElem?_cons_zero, List.getElem?_cons_succ]; rfl) (by kernel_rfl) (by kernel_rfl) (by kernel_rfl) (fun _ _ _ h => h) (Or.inl ⟨by rfl, ?yy2006⟩) (by assumption) ?rr2006
  case yy2006 => (intro w hSw; (try dsimp only at hSw); go_simp; first | done | with_reducible rfl)
  simp only [Act.put, List.setIfInBounds_toArray, List.set_cons_zero, List.set_cons_succ]
  refine wpAnyH_take (i := 6) (v := ?vv2007) (by simp only [List.getElem?_toArray, List.getElem?_cons_zero, List.getElem?_cons_succ]; rfl) (by kernel_rfl) (by kernel_rfl) (by kernel_rfl) (fun _ _ _ h => h) (Or.inl ⟨by rfl, ?yy2007⟩) (by assumption) ?rr2007
  case yy2007 => (intro w hSw; (try dsimp only at hSw); go_simp; first | done | with_reducible rfl)
  simp only [Act.put, List.setIfInBounds_toArray, List.set_cons_zero, List.set_cons_succ]
  refine wpAnyH_take (i := 7) (v := ?vv2008) (by simp only [List.getElem?_toArray, List.getElem?_cons_zero, List.getElem?_cons_succ]; rfl) (by kernel_rfl) (by kernel_rfl) (by kernel_rfl) (fun _ _ _ h => h) (Or.inl ⟨by rfl, ?yy2008⟩) (by assumption) ?rr2008
  case yy2008 => (intro w hSw; (try dsimp only at hSw); go_simp; first | done | with_reducible rfl)
  simp only [Act.put, List.setIfInBounds_toArray, List.set_cons_zero, List.set_cons_succ]
  refine wpAnyH_take (i := 8) (v := ?vv2009) (by simp only [List.getElem?_toArray, List.getElem?_cons_zero, List.getElem?_cons_succ]; rfl) (by kernel_rfl) (by kernel_rfl) (by kernel_rfl) (fun _ _ _ h => h) (Or.inl ⟨by rfl, ?yy2009⟩) (by assumption) ?rr2009
  case yy2009 => (intro w hSw; (try dsimp only at hSw); go_simp; first | done | with_reducible rfl)
  simp only [Act.put, List.setIfInBounds_toArray, List.set_cons_zero, List.set_cons_succ]
  refine wpAnyH_take (i := 10) (v := ?vv2010) (by simp only [List.getElem?_toArray, List.getElem?_cons_zero, List.getElem?_cons_succ]; rfl) (by kernel_rfl) (by kernel_rfl) (by kernel_rfl) (fun _ _ _ h => h) (Or.inl ⟨by rfl, ?yy2010⟩) (by assumption) ?rr2010
  case yy2010 => (intro w hSw; (try dsimp only at hSw); go_simp; first | done | with_reducible rfl)
  simp only [Act.put, List.setIfInBounds_toArray, List.set_cons_zero, List.set_cons_succ]
  refine wpAnyH_take (i := 11) (v := ?vv2011) (by simp only [List.getElem?_toArray, List.getElem?_cons_zero, List.getElem?_cons_succ]; rfl) (by kernel_rfl) (by kernel_rfl) (by kernel_rfl) (fun _ _ _ h => h) (Or.inl ⟨by rfl, ?yy2011⟩) (by assumption) ?rr2011
  case yy2011 => (intro w hSw; (try dsimp only at hSw); go_simp; first | done | with_reducible rfl)
  simp only [Act.put, List.setIfInBounds_toArray, List.set_cons_zero, List.set_cons_succ]
  refine wpAnyH_take (i := 12) (v := ?vv2012) (by simp only [List.getElem?_toArray, List.getElem?_cons_zero, List.getElem?_cons_succ]; rfl) (by kernel_rfl) (by kernel_rfl) (by kernel_rfl) (fun _ _ _ h => h) (Or.inl ⟨by rfl, ?yy2012⟩) (by assumption) ?rr2012
  case yy2012 => (intro w hSw; (try dsimp only at hSw); go_simp; first | done | with_reducible rfl)
  simp only [Act.put, List.setIfInBounds_toArray, List.set_cons_zero, List.set_cons_succ]
  refine wpAnyH_take (i := 13) (v := ?vv2013) (by simp only [List.getElem?_toArray, List.getElem?_cons_zero, List.getElem?_cons_succ]; rfl) (by kernel_rfl) (by kernel_rfl) (by kernel_rfl) (fun _ _ _ h => h) (Or.inl ⟨by rfl, ?yy2013⟩) (by assumption) ?rr2013
  case yy2013 => (intro w hSw; (try dsimp only at hSw); go_simp; first | done | with_reducible rfl)
  simp only [Act.put, List.setIfInBounds_toArray, List.set_cons_zero, List.set_cons_succ]
  refine wpAnyH_take (i := 14) (v := ?vv2014) (by simp only [List.getElem?_toArray, List.getElem?_cons_zero, List.getElem?_cons_succ]; rfl) (by kernel_rfl) (by kernel_rfl) (by kernel_rfl) (fun _ _ _ h => h) (Or.inl ⟨by rfl, ?yy2014⟩) (by assumption) ?rr2014
  case yy2014 => (intro w hSw; (try dsimp only at hSw); go_simp; first | done | with_reducible rfl)
  simp only [Act.put, List.setIfInBounds_toArray, List.set_cons_zero, List.set_cons_succ]
  refine wpAnyH_ready (rs := [9]) (by kernel_rfl) (by simp) ?_
  refine AllReadyH.cons (by simp only [List.getElem?_toArray, List.getElem?_cons_zero, List.getElem?_cons_succ]; rfl) (fun K hK => ?_) ?_
  · skip
    go_simp
    go_at_call 19
    (with_reducible refine (CK.out _).mono ?_)
    rintro e wq2 ⟨rfl, hb⟩
    clear hHeld
    replace BD := Lib.hid (chain BD.out hb)
    clear hb
    go_wp2_with fail
    refine hK.out _ _ ⟨(BD.out.cell (p := ⟨w.heap.size, 0, none⟩) ln0).trans c0, (BD.out.cell (p := ⟨w.heap.size, 1, none⟩) ln1).trans c1, (BD.out.cell (p := ⟨w.heap.size, 2, none⟩) ln2).trans c2, (BD.out.cell (p := ⟨w.heap.size, 3, none⟩) ln3).trans c3, (BD.out.cell (p := ⟨bS, oS + m * 3, none⟩) l4).trans a4, (BD.out.cell (p := ⟨bS, oS + m * 3 + 1, none⟩) l5).trans a5, (BD.out.cell (p := ⟨bS, oS + m * 3 + 2, none⟩) l6).trans a6, (BD.out.cell (p := ⟨bS, oS + m1 * 3, none⟩) l7).trans a7, (BD.out.cell (p := ⟨bS, oS + m1 * 3 + 1, none⟩) l8).trans a8, (BD.out.cell (p := ⟨bS, oS + m1 * 3 + 2, none⟩) l9).trans a9⟩ (fun hHeld => ?_)
    clear hK K
    try simp only [Act.put, List.setIfInBounds_toArray, List.set_cons_zero, List.set_cons_succ]
    refine wpAnyH_ready (rs := [15]) (by kernel_rfl) (by simp) ?_
    refine AllReadyH.cons (by simp only [List.getElem?_toArray, List.getElem?_cons_zero, List.getElem?_cons_succ]; rfl) (fun K hK => ?_) ?_
    · skip
      go_simp
      go_at_call 19
      (with_reducible refine (CU.out _).mono ?_)
      rintro e wq3 ⟨rfl, hb⟩
      clear hHeld
      replace BD := Lib.hid (chain BD.out hb)
      clear hb
      go_wp2_with fail
      refine hK.out _ _ ⟨(BD.out.cell (p := ⟨w.heap.size, 0, none⟩) ln0).trans c0, (BD.out.cell (p := ⟨w.heap.size, 1, none⟩) ln1).trans c1, (BD.out.cell (p := ⟨w.heap.size, 2, none⟩) ln2).trans c2, (BD.out.cell (p := ⟨w.heap.size, 3, none⟩) ln3).trans c3, (BD.out.cell (p := ⟨bS, oS + m * 3, none⟩) l4).trans a4, (BD.out.cell (p := ⟨bS, oS + m * 3 + 1, none⟩) l5).trans a5, (BD.out.cell (p := ⟨bS, oS + m * 3 + 2, none⟩) l6).trans a6, (BD.out.cell (p := ⟨bS, oS + m1 * 3, none⟩) l7).trans a7, (BD.out.cell (p := ⟨bS, oS + m1 * 3 + 1, none⟩) l8).trans a8, (BD.out.cell (p := ⟨bS, oS + m1 * 3 + 2, none⟩) l9).trans a9⟩ (fun hHeld => ?_)
      clear hK K
      try simp only [Act.put, List.setIfInBounds_toArray, List.set_cons_zero, List.set_cons_succ]
      refine wpAnyH_take (i := 16) (v := ?vv2015) (by simp only [List.getElem?_toArray, List.getElem?_cons_zero, List.getElem?_cons_succ]; rfl) (by kernel_rfl) (by kernel_rfl) (by kernel_rfl) (fun _ _ _ h => h) (Or.inl ⟨by rfl, ?yy2015⟩) (by assumption) ?rr2015
      case yy2015 => (intro w hSw; (try dsimp only at hSw); go_simp; first | done | with_reducible rfl)
      simp only [Act.put, List.setIfInBounds_toArray, List.set_cons_zero, List.set_cons_succ]
      refine wpAnyH_take (i := 17) (v := ?vv2016) (by simp only [List.getElem?_toArray, List.getElem?_cons_zero, List.getElem?_cons_succ]; rfl) (by kernel_rfl) (by kernel_rfl) (by kernel_rfl) (fun _ _ _ h => h) (Or.inl ⟨by rfl, ?yy2016⟩) (by assumption) ?rr2016
      case yy2016 => (intro w hSw; (try dsimp only at hSw); go_simp; first | done | with_reducible rfl)
      simp only [Act.put, List.setIfInBounds_toArray, List.set_cons_zero, List.set_cons_succ]
      refine wpAnyH_take (i := 18) (v := ?vv2017) (by simp only [List.getElem?_toArray, List.getElem?_cons_zero, List.getElem?_cons_succ]; rfl) (by kernel_rfl) (by kernel_rfl) (by kernel_rfl) (fun _ _ _ h => h) (Or.inl ⟨by rfl, ?yy2017⟩) (by assumption) ?rr2017
      case yy2017 => (intro w hSw; (try dsimp only at hSw); go_simp; first | done | with_reducible rfl)
      simp only [Act.put, List.setIfInBounds_toArray, List.set_cons_zero, List.set_cons_succ]
      refine wpAnyH_take (i := 19) (v := ?vv2018) (by simp only [List.getElem?_toArray, List.getElem?_cons_zero, List.getElem?_cons_succ]; rfl) (by kernel_rfl) (by kernel_rfl) (by kernel_rfl) (fun _ _ _ h => h) (Or.inl ⟨by rfl, ?yy2018⟩) (by assumption) ?rr2018
      case yy2018 => (intro w hSw; (try dsimp only at hSw); go_simp; first | done | with_reducible rfl)
      simp only [Act.put, List.setIfInBounds_toArray, List.set_cons_zero, List.set_cons_succ]
      refine wpAnyH_done (by kernel_rfl) ?_ _
      refine NoPanic.normal ?_
      clear hHeld
      have BF := Lib.hid (chain B4.out (chain hd BD.out))
      clear hd BD c0 c1 c2 c3 a4 a5 a6 a7 a8 a9 v1 v2
      go_wp2_with fail
      go_ret2
      rw [IS.out]
      exact ⟨_, rfl, EV.out, BF.out⟩
    exact AllReadyH.nil
  exact AllReadyH.nil

end Go.Proofs.Ytklgjhldebdegaa

namespace Go.Proofs.Ytklgjhldebdegaa
open Go.RowKit

theorem su_cell {w : World} {b off : Nat} {us : List UInt64} (h : ∀ j u, (us.flatMap ucells)[j]? = some u → w.cell? ⟨b, off + j, none⟩ = some u) {k : Nat} {x : UInt64} (hx : us[k]? = some x) :
    w.cell? ⟨b, off + k, none⟩ = some (.int .u64 (uz x)) := by
  have := Rg.at ucells_len h hx 0 _ rfl
  rwa [Nat.mul_one] at this
set_option maxHeartbeats 400000 in
theorem ssame_core (A B : Option Addr) (cA cB n : Nat) (us : List UInt64) (w : World) (hx : Rg ucells w A us) (hy : Rg ucells w B us) (lx : n = us.length) (hn : n ≤ 1000000) :
    Calls Try.prog 9 #[.slice A n cA, .slice B n cB] w fun e w' => e = .returned (.bool true) ∧ Below w.heap.size w w' := by
  have HX := Lib.hid hx; clear hx
  have HY := Lib.hid hy; clear hy
  have LX := Lib.hid lx; clear lx
  have hne : ((n : Int) != (n : Int)) = false := by simp
  go_enter Try.func9, Try.ntmps9
  go_wp2_with fail
  go_loopw [5] (fun i wr => ∃ k : Nat, k ≤ n ∧ i = .int .i64 k ∧ Hid (Below w.heap.size w wr)) (fun i _ => n - (intOf i).toNat)
  case atStart => exact ⟨0, Nat.zero_le _, rfl, Below.refl _ _⟩
  case round =>
    obtain ⟨k, hk, rfl, HB⟩ := hrel
    by_cases hlt : k < n
    · obtain ⟨b1, o1, rfl, l1, c1⟩ := HX.out (by rw [← LX.out]; omega)
      obtain ⟨b2, o2, rfl, l2, c2⟩ := HY.out (by rw [← LX.out]; omega)
      obtain ⟨x, hxe⟩ : ∃ x, us[k]? = some x := ⟨_, List.getElem?_eq_getElem (by rw [← LX.out]; exact hlt)⟩
      have d1 := (HB.out.cell (p := ⟨b1, o1 + k, none⟩) l1).trans (su_cell c1 hxe)
      have d2 := (HB.out.cell (p := ⟨b2, o2 + k, none⟩) l2).trans (su_cell c2 hxe)
      clear c1 c2 hxe
      have hxx : (uz x != uz x) = false := by simp
      go_wp2_with fail
      go_quiet (fail)
      go_wp2_with fail
      go_roundw
      case rel => exact ⟨k + 1, by omega, by go_num, below_drewN HB.out _⟩
      case measure => simp [intOf]; omega
    · go_wp2
      go_ret
      exact ⟨rfl, HB.out⟩
theorem ssame (A B : Option Addr) (cA cB na nb : Nat) (xs ys : List UInt64) (w : World) (hx : Rg ucells w A xs) (hy : Rg ucells w B ys) (lx : na = xs.length) (ly : nb = ys.length) (hn : na ≤ 1000000) (he : xs = ys) :
    Calls Try.prog 9 #[.slice A na cA, .slice B nb cB] w fun e w' => e = .returned (.bool true) ∧ Below w.heap.size w w' := by
  subst he
  obtain rfl : nb = na := by rw [lx, ly]
  exact ssame_core A B cA cB nb xs w hx hy lx hn

end Go.Proofs.Ytklgjhldebdegaa

namespace Go.Proofs.Ytklgjhldebdegaa
open Go.RowKit
theorem g_lit : uz gU = 11400714819323198485 := rfl
theorem a_lit : uz aU = 13787848793156543929 := rfl
theorem b_lit : uz bU = 10723151780598845931 := rfl

theorem uz_conv (k : Nat) : IntKind.u64.wrap (k : Int) = uz (UInt64.ofNat k) := by
  rw [IntKind.wrap_u64]; unfold uz; rw [UInt64.toNat_ofNat']; omega

end Go.Proofs.Ytklgjhldebdegaa

namespace Go.Proofs.Ytklgjhldebdegaa
open Go.RowKit

/-- z, shifted by so many bits and laid upon itself, so often. -/
def mxN (k : Nat) (z : UInt64) : Nat → UInt64
  | 0 => z
  | n + 1 => mixU k (mxN k z n)
set_option maxHeartbeats 1000000 in
theorem smix9 (z : UInt64) (k n bt : Nat) (hk : k < 64) (hn : n ≤ 100) (w : World) (hT : CB w bt 3 (.int .i64 (n : Int))) : Calls Try.prog 117 #[.int .u64 (uz z), .int .u64 (k : Int), .pointer (some ⟨bt, 0, none⟩)] w fun e w' => e = .returned (.int .u64 (uz (mxN k z n))) ∧ Below w.heap.size w w' := by
  have k0 : (0 : Int) ≤ (k : Int) := by omega
  have k1 : (k : Int) < 64 := by omega
  have ct := hT.cell
  have lt := hT.lt
  clear hk hT
  go_enter Try.func117, Try.ntmps117
  go_wp2_with fail
  go_loop [0, 7] (fun x i => ∃ j : Nat, j ≤ n ∧ x = .int .u64 (uz (mxN k z j)) ∧ i = .int .i64 (j : Int)) (fun _ i => n - (intOf i).toNat)
  case atStart => exact ⟨0, Nat.zero_le _, rfl, rfl⟩
  case round =>
    obtain ⟨j, hj, rfl, rfl⟩ := hrel
    by_cases jn : j < n
    · have ji : (j : Int) < (n : Int) := by omega
      have h0 := uz_lo (mxN k z j); have h1 := uz_hi (mxN k z j)
      have E : Hid (bits .xor .u64 (uz (mxN k z j)) (uz (mxN k z j) / 2 ^ k) = uz (mxN k z (j + 1))) := by show _ = _; rw [uz_mix]; rfl
      go_wp2_with fail
      refine ⟨⟨j + 1, by omega, ?_, by go_num⟩, by simp [intOf]; omega⟩
      rw [E.out]
    · obtain rfl : j = n := by omega
      go_wp2_with fail
      go_ret
      exact ⟨rfl, Below.refl _ _⟩

set_option maxHeartbeats 1000000 in
theorem shifts9 (n : Nat) (w : World) : Calls Try.prog 116 #[.int .i64 (n : Int)] w fun e w' => ∃ bt : Nat, e = .returned (.func (.func 117) #[] #[.pointer (some ⟨bt, 0, none⟩)]) ∧ CB w' bt 3 (.int .i64 (n : Int)) ∧ Below w.heap.size w w' := by
  have hmf : ∀ (fn : Fn) (first cap : Array Value) (w : World), (Instr.makeFunc fn first cap).run Try.prog w = .ok (.func fn first cap) w := fun _ _ _ _ => rfl
  go_enter Try.func116, Try.ntmps116
  go_wp2_with fail
  go_ret
  exact ⟨w.heap.size, rfl, heap_alloc_new w _, chain_alloc (Below.refl _ w) _⟩

set_option maxHeartbeats 2000000 in
theorem number9 (s i : UInt64) (w : World) : Calls Try.prog 115 #[.int .u64 (uz s), .int .u64 (uz i)] w fun e w' => e = .returned (.int .u64 (uz (numU s i))) ∧ Below w.heap.size w w' := by
  have e1 : IntKind.u64.wrap (uz i + 1) = uz (i + 1) := uz_add i 1
  have e2 : IntKind.u64.wrap (uz (i + 1) * 11400714819323198485) = uz ((i + 1) * gU) := by rw [← g_lit]; exact uz_mul _ _
  have e3 : IntKind.u64.wrap (uz s + uz ((i + 1) * gU)) = uz (s + (i + 1) * gU) := uz_add _ _
  obtain ⟨z, hz⟩ : ∃ z, z = s + (i + 1) * gU := ⟨_, rfl⟩
  rw [← hz] at e3
  obtain ⟨y, hy⟩ : ∃ y, y = mixU 30 z * aU := ⟨_, rfl⟩
  obtain ⟨x, hx⟩ : ∃ x, x = mixU 27 y * bU := ⟨_, rfl⟩
  have e4 : IntKind.u64.wrap (uz (mixU 30 z) * 13787848793156543929) = uz y := by rw [hy, ← a_lit]; exact uz_mul _ _
  have e5 : IntKind.u64.wrap (uz (mixU 27 y) * 10723151780598845931) = uz x := by rw [hx, ← b_lit]; exact uz_mul _ _
  have HN : Hid (numU s i = mixU 31 x) := by show _ = _; rw [hx, hy, hz]; rfl
  have MX : Hid (∀ (u : UInt64) (k bt : Nat) w, k < 64 → CB w bt 3 (.int .i64 1) → Calls Try.prog 117 #[.int .u64 (uz u), .int .u64 (k : Int), .pointer (some ⟨bt, 0, none⟩)] w fun e w' => e = .returned (.int .u64 (uz (mixU k u))) ∧ Below w.heap.size w w') := fun u k bt w hk hT => smix9 u k 1 bt hk (by decide) w hT
  clear hx hy hz
  go_enter Try.func115, Try.ntmps115
  go_wp2_with fail
  refine (shifts9 1 _).mono ?_
  rintro e w0 ⟨bt, rfl, hT, hb⟩
  have B0 := Lib.hid hb
  have T0 := Lib.hid hT
  clear hb hT
  go_wp2_with fail
  refine (MX.out z 30 bt _ (by decide) T0.out).mono ?_
  rintro e w1 ⟨rfl, hb⟩
  have B1 := Lib.hid (chain B0.out hb)
  have T1 := Lib.hid (T0.out.below hb)
  clear hb
  go_wp2_with fail
  refine (MX.out y 27 bt _ (by decide) T1.out).mono ?_
  rintro e w2 ⟨rfl, hb⟩
  have B2 := Lib.hid (chain B1.out hb)
  have T2 := Lib.hid (T1.out.below hb)
  clear hb
  go_wp2_with fail
  refine (MX.out x 31 bt _ (by decide) T2.out).mono ?_
  rintro e w3 ⟨rfl, hb⟩
  have B3 := Lib.hid (chain B2.out hb)
  clear hb
  go_wp2_with fail
  go_ret
  exact ⟨by rw [HN.out]; rfl, B3.out⟩

end Go.Proofs.Ytklgjhldebdegaa

namespace Go.Proofs.Ytklgjhldebdegaa
open Go.RowKit

/-- An array, or a row, of numbers that is being filled; T: the type that its block has. -/
def AB9 (T : Nat) (w : World) (g n k : Nat) (us : List UInt64) : Prop :=
  ∃ cs : Array Value, w.heap[g]? = some (.cells cs T (0, 0)) ∧ cs.size = n ∧ (∀ j, j < n → ∃ v : Int, cs[j]? = some (.int .u64 v)) ∧ ∀ j x, j < k → us[j]? = some x → cs[j]? = some (.int .u64 (uz x))
theorem AB9.lt {T : Nat} {w : World} {g n k : Nat} {us : List UInt64} (h : AB9 T w g n k us) : g < w.heap.size := by
  obtain ⟨cs, h1, _⟩ := h
  exact (Array.getElem?_eq_some_iff.1 h1).1
theorem AB9.start (T : Nat) (w : World) (n : Nat) (us : List UInt64) : AB9 T (w.alloc (.cells (madeCells #[.int .u64 0] n) T)) w.heap.size n 0 us := by
  refine ⟨_, heap_alloc_new w _, size_madeCells _ _, fun j hj => ⟨0, ?_⟩, fun j _ hj => absurd hj (by omega)⟩
  simp [madeCells, hj, Nat.mod_one]
theorem AB9.below {T : Nat} {w w' : World} {g n k : Nat} {us : List UInt64} (h : AB9 T w g n k us) (hb : Below w.heap.size w w') : AB9 T w' g n k us := by
  have hl := h.lt
  obtain ⟨cs, h1, h2⟩ := h
  exact ⟨cs, (hb.block g hl).trans h1, h2⟩
theorem AB9.drew {T : Nat} {w : World} {g n k : Nat} {us : List UInt64} (h : AB9 T w g n k us) : AB9 T w.drew g n k us := h
theorem AB9.facts {T : Nat} {w : World} {g n k : Nat} {us : List UInt64} (h : AB9 T w g n k us) (hk : k < n) : (∃ v, w.cell? ⟨g, k, none⟩ = some (.int .u64 v)) ∧ w.frozen? ⟨g, k, none⟩ = false := by
  obtain ⟨cs, h1, h2, h3, _⟩ := h
  exact ⟨by rw [Lib.cell_of_heap h1]; exact h3 k hk, Lib.frozen_of_heap h1 k⟩
theorem AB9.any {T : Nat} {w : World} {g n k : Nat} {us : List UInt64} (h : AB9 T w g n k us) {j : Nat} (hj : j < n) : (∃ v, w.cell? ⟨g, j, none⟩ = some (.int .u64 v)) ∧ w.frozen? ⟨g, j, none⟩ = false := by
  obtain ⟨cs, h1, h2, h3, _⟩ := h
  exact ⟨by rw [Lib.cell_of_heap h1]; exact h3 j hj, Lib.frozen_of_heap h1 j⟩
theorem AB9.step {T : Nat} {w : World} {g n k : Nat} {us : List UInt64} {x : UInt64} (h : AB9 T w g n k us) (hk : k < n) (hx : us[k]? = some x) : AB9 T (w.setCell ⟨g, k, none⟩ (.int .u64 (uz x))) g n (k + 1) us := by
  obtain ⟨cs, h1, h2, h3, h4⟩ := h
  refine ⟨_, Lib.heap_setCell_same h1 _, by simp [h2], fun j hj => ?_, fun j y hj hy => ?_⟩
  · by_cases e : j = k
    · subst e; exact ⟨_, by rw [Array.getElem?_setIfInBounds_self_of_lt (by omega)]⟩
    · obtain ⟨v, hv⟩ := h3 j hj
      exact ⟨v, by rw [Array.getElem?_setIfInBounds_ne (by omega)]; exact hv⟩
  · by_cases e : j = k
    · subst e
      rw [hx] at hy
      obtain rfl := Option.some.inj hy
      rw [Array.getElem?_setIfInBounds_self_of_lt (by omega)]
    · rw [Array.getElem?_setIfInBounds_ne (by omega)]
      exact h4 j y (by omega) hy
theorem AB9.done {T : Nat} {w : World} {g n : Nat} {us : List UInt64} (h : AB9 T w g n n us) (hn : us.length = n) : Rg ucells w (some ⟨g, 0, none⟩) us := fun _ => by
  have hl := h.lt
  obtain ⟨cs, h1, h2, h3, h4⟩ := h
  refine ⟨g, 0, rfl, hl, fun j u hu => ?_⟩
  rw [Nat.zero_add, Lib.cell_of_heap h1]
  have hj : j < us.length := by
    have := (List.getElem?_eq_some_iff.1 hu).1
    rw [flat_len ucells_len] at this; omega
  have hx := List.getElem?_eq_getElem hj
  have := flat_get ucells_len us j 0 _ hx (by decide)
  rw [Nat.mul_one, Nat.add_zero] at this
  rw [this] at hu
  obtain rfl := Option.some.inj hu
  exact h4 j _ (by omega) hx


theorem AB9.cell {T : Nat} {w : World} {g n k : Nat} {us : List UInt64} {x : UInt64} (h : AB9 T w g n n us) (hk : k < n) (hx : us[k]? = some x) : w.cell? ⟨g, k, none⟩ = some (.int .u64 (uz x)) := by
  obtain ⟨cs, h1, _, _, h4⟩ := h
  rw [Lib.cell_of_heap h1]
  exact h4 k x hk hx
/-- The five numbers that a triple is made of. -/
def fiveL (s i : UInt64) : List UInt64 := (List.range 5).map fun k => numU s (5 * i + UInt64.ofNat k)
theorem fiveL_get (s i : UInt64) {k : Nat} (h : k < 5) : (fiveL s i)[k]? = some (numU s (5 * i + UInt64.ofNat k)) := by simp [fiveL, h]

/-- Five numbers, as an array. -/
def arr5 (s i : UInt64) : Value := .agg #[.int .u64 (uz (numU s (5 * i))), .int .u64 (uz (numU s (5 * i + 1))), .int .u64 (uz (numU s (5 * i + 2))), .int .u64 (uz (numU s (5 * i + 3))), .int .u64 (uz (numU s (5 * i + 4)))]
theorem AB9.zero (T : Nat) (w : World) (us : List UInt64) : AB9 T (w.alloc (.cells #[.int .u64 0, .int .u64 0, .int .u64 0, .int .u64 0, .int .u64 0] T)) w.heap.size 5 0 us :=
  ⟨_, heap_alloc_new w _, rfl, fun j hj => ⟨0, by
    have : j = 0 ∨ j = 1 ∨ j = 2 ∨ j = 3 ∨ j = 4 := by omega
    rcases this with rfl | rfl | rfl | rfl | rfl <;> rfl⟩, fun j _ hj => absurd hj (by omega)⟩

set_option maxHeartbeats 2000000 in
set_option maxRecDepth 100000 in
theorem numbers11 (s i : UInt64) (w : World) : Calls Try.prog 112 #[.int .u64 (uz s), .int .u64 (uz i)] w fun e w' => e = .returned (arr5 s i) ∧ Below w.heap.size w w' := by
  have e0 := Lib.hid (uz_mul 5 i)
  go_enter Try.func112, Try.ntmps112
  go_wp2_with fail
  obtain ⟨V, hV⟩ : ∃ V, V = w.alloc (.cells #[.int .u64 0, .int .u64 0, .int .u64 0, .int .u64 0, .int .u64 0] 160) := ⟨_, rfl⟩
  obtain ⟨V2, hV2⟩ : ∃ V2, V2 = V.alloc (.cells #[.int .u64 0, .int .u64 0, .int .u64 0, .int .u64 0, .int .u64 0] 160) := ⟨_, rfl⟩
  have hs : V.heap.size = w.heap.size + 1 := by rw [hV]; simp
  have Z : Hid (AB9 160 V2 w.heap.size 5 0 (fiveL s i)) := by
    rw [hV2]
    refine AB9.below ?_ (chain_alloc (Below.refl _ _) _)
    rw [hV]
    exact AB9.zero _ w _
  have F0 : Hid (AB9 160 V2 (w.heap.size + 1) 5 0 (fiveL s i)) := by
    rw [hV2, ← hs]
    exact AB9.zero _ V _
  have B0 : Hid (Below w.heap.size w V2) := by rw [hV2, hV]; exact chain_alloc (chain_alloc (Below.refl _ w) _) _
  rw [← hV, ← hV2]
  obtain ⟨g, hg⟩ : ∃ g, g = w.heap.size + 1 := ⟨_, rfl⟩
  rw [← hg] at F0 ⊢
  obtain ⟨z, hz⟩ : ∃ z, z = w.heap.size := ⟨_, rfl⟩
  have gz : g ≠ z := by omega
  have gl : w.heap.size ≤ g := by omega
  have zl : w.heap.size ≤ z := by omega
  rw [← hz] at Z ⊢
  clear hV hV2 hs hg hz
  go_loopg [6, 7] 5 (fun gh _ s9 wx => ∃ k : Nat, k ≤ 5 ∧ Hid (gh = 5 - k) ∧ s9 = .int .i64 (k : Int) ∧ Hid (AB9 160 wx g 5 k (fiveL s i)) ∧ Hid (AB9 160 wx z 5 0 (fiveL s i)) ∧ Hid (Below w.heap.size w wx))
  case atStart => exact ⟨0, by omega, by show _ = _; omega, rfl, F0, Z, B0⟩
  case round =>
    obtain ⟨k, hk, HG, rfl, FK, ZK, BK⟩ := hrel
    by_cases kn : k < 5
    · have ki : (k : Int) < 5 := by omega
      have ka : (0 : Int) ≤ (k : Int) := by omega
      obtain ⟨y, hy⟩ : ∃ y, y = 5 * i + UInt64.ofNat k := ⟨_, rfl⟩
      obtain ⟨x, hx⟩ : ∃ x, x = numU s y := ⟨_, rfl⟩
      have u1 := uz_conv k
      have u2 : IntKind.u64.wrap (5 * uz i) = uz (5 * i) := e0.out
      have u3 : IntKind.u64.wrap (uz (5 * i) + uz (UInt64.ofNat k)) = uz y := by rw [hy]; exact uz_add _ _
      have GX : Hid ((fiveL s i)[k]? = some x) := by rw [hx, hy]; exact fiveL_get s i kn
      have KN : Hid (k < 5) := kn
      have CN : Hid (∀ w, Calls Try.prog 115 #[.int .u64 (uz s), .int .u64 (uz y)] w fun e w' => e = .returned (.int .u64 (uz x)) ∧ Below w.heap.size w w') := fun w => by rw [hx]; exact number9 s y w
      clear hx hy
      go_wp2_with fail
      refine (CN.out _).mono ?_
      rintro e w2 ⟨rfl, hb⟩
      have F2 := Lib.hid (FK.out.below hb)
      have Z2 := Lib.hid (ZK.out.below hb)
      have B2 := Lib.hid (chain BK.out hb)
      obtain ⟨⟨v, c0⟩, q0⟩ := F2.out.facts kn
      clear hb u1 u2 u3 kn
      go_wp2_with fail
      have F3 := Lib.hid (F2.out.step KN.out GX.out)
      have Z3 : Hid (AB9 160 (w2.setCell ⟨g, k, none⟩ (.int .u64 (uz x))) z 5 0 (fiveL s i)) := by
        obtain ⟨cs, h1, h2⟩ := Z2.out
        exact ⟨cs, (Below.heap_setCell w2 ⟨g, k, none⟩ _ z (Ne.symm gz)).trans h1, h2⟩
      have B3 : Hid (Below w.heap.size w (w2.setCell ⟨g, k, none⟩ (.int .u64 (uz x)))) := B2.out.setCell (p := ⟨g, k, none⟩) gl _
      go_roundg (5 - (k + 1))
      case measure => have := HG.out; have := KN.out; omega
      case rel => exact ⟨k + 1, by have := KN.out; omega, rfl, by go_num, F3, Z3, B3⟩
    · obtain rfl : k = 5 := by omega
      obtain ⟨p, hp⟩ : ∃ p, p = numU s (5 * i) := ⟨_, rfl⟩
      obtain ⟨q, hq⟩ : ∃ q, q = numU s (5 * i + 1) := ⟨_, rfl⟩
      obtain ⟨r, hr⟩ : ∃ r, r = numU s (5 * i + 2) := ⟨_, rfl⟩
      obtain ⟨u, hu⟩ : ∃ u, u = numU s (5 * i + 3) := ⟨_, rfl⟩
      obtain ⟨v, hv⟩ : ∃ v, v = numU s (5 * i + 4) := ⟨_, rfl⟩
      have E : Hid (arr5 s i = .agg #[.int .u64 (uz p), .int .u64 (uz q), .int .u64 (uz r), .int .u64 (uz u), .int .u64 (uz v)]) := by show _ = _; rw [hp, hq, hr, hu, hv]; rfl
      have c0 := FK.out.cell (k := 0) (x := p) (by decide) (by rw [hp, fiveL_get s i (by decide)]; exact congrArg (fun y => some (numU s y)) (UInt64.add_zero _))
      have c1 := FK.out.cell (k := 1) (x := q) (by decide) (by rw [hq, fiveL_get s i (by decide)]; rfl)
      have c2 := FK.out.cell (k := 2) (x := r) (by decide) (by rw [hr, fiveL_get s i (by decide)]; rfl)
      have c3 := FK.out.cell (k := 3) (x := u) (by decide) (by rw [hu, fiveL_get s i (by decide)]; rfl)
      have c4 := FK.out.cell (k := 4) (x := v) (by decide) (by rw [hv, fiveL_get s i (by decide)]; rfl)
      obtain ⟨⟨x0, y0⟩, f0⟩ := ZK.out.any (j := 0) (by decide)
      obtain ⟨⟨x1, y1⟩, f1⟩ := ZK.out.any (j := 1) (by decide)
      obtain ⟨⟨x2, y2⟩, f2⟩ := ZK.out.any (j := 2) (by decide)
      obtain ⟨⟨x3, y3⟩, f3⟩ := ZK.out.any (j := 3) (by decide)
      obtain ⟨⟨x4, y4⟩, f4⟩ := ZK.out.any (j := 4) (by decide)
      have lz := ZK.out.lt
      have lg := FK.out.lt
      clear hp hq hr hu hv
      go_wp2_with fail
      exact bodyPost_ret (v := .agg #[.int .u64 (uz p), .int .u64 (uz q), .int .u64 (uz r), .int .u64 (uz u), .int .u64 (uz v)]) (by simp [results, Try.results112, go_sem, y0, y1, y2, y3, y4]) rfl ⟨by rw [E.out], below_set5 BK.out zl _ _ _ _ _⟩

set_option maxHeartbeats 2000000 in
set_option maxRecDepth 100000 in
theorem half11 (s : UInt64) (a : Int) (i : UInt64) (w : World) : Calls Try.prog 109 #[.int .u64 (uz s), .int .i64 a, .int .u64 (uz i)] w fun e w' => e = .returned (tpv (halfU s a i)) ∧ Below w.heap.size w w' := by
  obtain ⟨p, hp⟩ : ∃ p, p = numU s (5 * i) := ⟨_, rfl⟩
  obtain ⟨q, hq⟩ : ∃ q, q = numU s (5 * i + 1) := ⟨_, rfl⟩
  obtain ⟨r, hr⟩ : ∃ r, r = numU s (5 * i + 2) := ⟨_, rfl⟩
  obtain ⟨u, hu⟩ : ∃ u, u = numU s (5 * i + 3) := ⟨_, rfl⟩
  obtain ⟨v, hv⟩ : ∃ v, v = numU s (5 * i + 4) := ⟨_, rfl⟩
  have CN : Hid (∀ w, Calls Try.prog 112 #[.int .u64 (uz s), .int .u64 (uz i)] w fun e w' => e = .returned (.agg #[.int .u64 (uz p), .int .u64 (uz q), .int .u64 (uz r), .int .u64 (uz u), .int .u64 (uz v)]) ∧ Below w.heap.size w w') := fun w => by rw [hp, hq, hr, hu, hv]; exact numbers11 s i w
  have E0 : Hid (a = 0 → halfU s a i = ⟨p, q, r⟩) := fun h0 => by rw [h0, half_zero, hp, hq, hr]
  have E1 : Hid (a ≠ 0 → halfU s a i = ⟨u, v, (p + u) * (q + v) - r⟩) := fun h0 => by rw [half_one h0, hp, hq, hr, hu, hv]
  clear hp hq hr hu hv
  go_enter Try.func109, Try.ntmps109
  go_wp2_with fail
  refine (CN.out _).mono ?_
  rintro e w1 ⟨rfl, hb⟩
  obtain ⟨z, hz⟩ : ∃ z, z = w.heap.size := ⟨_, rfl⟩
  have Z : Hid (TC w1 z Tp.z) := by rw [hz]; exact TC.below (t := Tp.z) (heap_alloc_new w _) hb
  have BK : Hid (Below w.heap.size w w1) := (chain_alloc (Below.refl _ w) _).trans (hb.mono (by simp))
  have zl : w.heap.size ≤ z := by omega
  rw [← hz]
  clear hb hz
  go_wp2_with fail
  obtain ⟨V, hV⟩ : ∃ V, V = w1.alloc (.cells #[.int .u64 (uz p), .int .u64 (uz q), .int .u64 (uz r), .int .u64 (uz u), .int .u64 (uz v)] 160) := ⟨_, rfl⟩
  have ZV : Hid (TC V z Tp.z) := by rw [hV]; exact Z.out.below (chain_alloc (Below.refl _ _) _)
  have BV : Hid (Below w.heap.size w V) := by rw [hV]; exact chain_alloc BK.out _
  have FV : Hid (V.heap[w1.heap.size]? = some (.cells #[.int .u64 (uz p), .int .u64 (uz q), .int .u64 (uz r), .int .u64 (uz u), .int .u64 (uz v)] 160 (0, 0))) := by rw [hV]; exact heap_alloc_new w1 _
  rw [← hV]
  clear hV
  obtain ⟨g, hg⟩ : ∃ g, g = w1.heap.size := ⟨_, rfl⟩
  rw [← hg] at FV ⊢
  clear hg
  have c0 : V.cell? ⟨g, 0, none⟩ = some (.int .u64 (uz p)) := by rw [Lib.cell_of_heap FV.out]; rfl
  have c1 : V.cell? ⟨g, 1, none⟩ = some (.int .u64 (uz q)) := by rw [Lib.cell_of_heap FV.out]; rfl
  have c2 : V.cell? ⟨g, 2, none⟩ = some (.int .u64 (uz r)) := by rw [Lib.cell_of_heap FV.out]; rfl
  have c3 : V.cell? ⟨g, 3, none⟩ = some (.int .u64 (uz u)) := by rw [Lib.cell_of_heap FV.out]; rfl
  have c4 : V.cell? ⟨g, 4, none⟩ = some (.int .u64 (uz v)) := by rw [Lib.cell_of_heap FV.out]; rfl
  go_quiet (fail)
  obtain ⟨y0, y1, y2⟩ := ZV.out.cells
  have f0 := ZV.out.frozen 0
  have f1 := ZV.out.frozen 1
  have f2 := ZV.out.frozen 2
  have lz := ZV.out.lt
  by_cases h0 : a = 0
  · have d : (a == 0) = true := by simp [h0]
    have E := Lib.hid (E0.out h0)
    clear h0 c0 c1 c2 c3 c4 Z ZV
    go_wp2_with fail
    exact bodyPost_ret (v := tpv ⟨p, q, r⟩) (by simp [results, Try.results109, go_sem, tpv, y0, y1, y2]) rfl ⟨by rw [E.out], below_set3 (chain_drewN BV.out _) zl _ _ _⟩
  · have d : (a == 0) = false := by simp [h0]
    have E := Lib.hid (E1.out h0)
    have g1 : IntKind.u64.wrap (uz p + uz u) = uz (p + u) := uz_add _ _
    have g2 : IntKind.u64.wrap (uz q + uz v) = uz (q + v) := uz_add _ _
    have g3 : IntKind.u64.wrap (uz (p + u) * uz (q + v)) = uz ((p + u) * (q + v)) := uz_mul _ _
    have g4 : IntKind.u64.wrap (uz ((p + u) * (q + v)) - uz r) = uz ((p + u) * (q + v) - r) := uz_sub _ _
    clear h0 c0 c1 c2 c3 c4 Z ZV
    go_wp2_with fail
    exact bodyPost_ret (v := tpv ⟨u, v, (p + u) * (q + v) - r⟩) (by simp [results, Try.results109, go_sem, tpv, y0, y1, y2]) rfl ⟨by rw [E.out], below_set3 (chain_drewN BV.out _) zl _ _ _⟩

/-- A row of triples that is being filled. -/
def TB (w : World) (g n k : Nat) (ts : List Tp) : Prop :=
  ∃ cs : Array Value, w.heap[g]? = some (.cells cs 152 (0, 0)) ∧ cs.size = n * 3 ∧ (∀ j, j < n * 3 → ∃ v : Int, cs[j]? = some (.int .u64 v)) ∧ ∀ j t, j < k → ts[j]? = some t → cs[j * 3]? = some (.int .u64 (uz t.a)) ∧ cs[j * 3 + 1]? = some (.int .u64 (uz t.b)) ∧ cs[j * 3 + 2]? = some (.int .u64 (uz t.c))
theorem TB.lt {w : World} {g n k : Nat} {ts : List Tp} (h : TB w g n k ts) : g < w.heap.size := by
  obtain ⟨cs, h1, _⟩ := h
  exact (Array.getElem?_eq_some_iff.1 h1).1
theorem TB.start (w : World) (n : Nat) (ts : List Tp) : TB (w.alloc (.cells (madeCells #[.int .u64 0, .int .u64 0, .int .u64 0] (n * 3)) 152)) w.heap.size n 0 ts := by
  refine ⟨_, heap_alloc_new w _, size_madeCells _ _, fun j hj => ⟨0, ?_⟩, fun j _ hj => absurd hj (by omega)⟩
  have h3 : j % 3 = 0 ∨ j % 3 = 1 ∨ j % 3 = 2 := by omega
  rcases h3 with h3 | h3 | h3 <;> simp [madeCells, hj, h3]
theorem TB.below {w w' : World} {g n k : Nat} {ts : List Tp} (h : TB w g n k ts) (hb : Below w.heap.size w w') : TB w' g n k ts := by
  have hl := h.lt
  obtain ⟨cs, h1, h2⟩ := h
  exact ⟨cs, (hb.block g hl).trans h1, h2⟩
theorem TB.facts {w : World} {g n k : Nat} {ts : List Tp} (h : TB w g n k ts) (hk : k < n) : (∃ v, w.cell? ⟨g, k * 3, none⟩ = some (.int .u64 v)) ∧ (∃ v, w.cell? ⟨g, k * 3 + 1, none⟩ = some (.int .u64 v)) ∧ (∃ v, w.cell? ⟨g, k * 3 + 2, none⟩ = some (.int .u64 v)) ∧ w.frozen? ⟨g, k * 3, none⟩ = false ∧ w.frozen? ⟨g, k * 3 + 1, none⟩ = false ∧ w.frozen? ⟨g, k * 3 + 2, none⟩ = false := by
  obtain ⟨cs, h1, h2, h3, _⟩ := h
  exact ⟨by rw [Lib.cell_of_heap h1]; exact h3 _ (by omega), by rw [Lib.cell_of_heap h1]; exact h3 _ (by omega), by rw [Lib.cell_of_heap h1]; exact h3 _ (by omega), Lib.frozen_of_heap h1 _, Lib.frozen_of_heap h1 _, Lib.frozen_of_heap h1 _⟩
theorem TB.step {w : World} {g n k : Nat} {ts : List Tp} {t : Tp} (h : TB w g n k ts) (hk : k < n) (ht : ts[k]? = some t) :
    TB (((w.setCell ⟨g, k * 3, none⟩ (.int .u64 (uz t.a))).setCell ⟨g, k * 3 + 1, none⟩ (.int .u64 (uz t.b))).setCell ⟨g, k * 3 + 2, none⟩ (.int .u64 (uz t.c))) g n (k + 1) ts := by
  obtain ⟨cs, h1, h2, h3, h4⟩ := h
  refine ⟨_, Lib.heap_setCell_same (Lib.heap_setCell_same (Lib.heap_setCell_same h1 _) _) _, by simp [h2], fun j hj => ?_, fun j y hj hy => ?_⟩
  · obtain ⟨v, hv⟩ := h3 j hj
    by_cases e2 : j = k * 3 + 2
    · subst e2; exact ⟨_, Array.getElem?_setIfInBounds_self_of_lt (by simp; omega)⟩
    · rw [Array.getElem?_setIfInBounds_ne (Ne.symm e2)]
      by_cases e1 : j = k * 3 + 1
      · subst e1; exact ⟨_, Array.getElem?_setIfInBounds_self_of_lt (by simp; omega)⟩
      · rw [Array.getElem?_setIfInBounds_ne (Ne.symm e1)]
        by_cases e0 : j = k * 3
        · subst e0; exact ⟨_, Array.getElem?_setIfInBounds_self_of_lt (by omega)⟩
        · rw [Array.getElem?_setIfInBounds_ne (Ne.symm e0)]; exact ⟨v, hv⟩
  · by_cases e : j = k
    · subst e
      rw [ht] at hy
      obtain rfl := Option.some.inj hy
      refine ⟨?_, ?_, ?_⟩
      · rw [Array.getElem?_setIfInBounds_ne (by omega), Array.getElem?_setIfInBounds_ne (by omega), Array.getElem?_setIfInBounds_self_of_lt (by omega)]
      · rw [Array.getElem?_setIfInBounds_ne (by omega), Array.getElem?_setIfInBounds_self_of_lt (by simp; omega)]
      · rw [Array.getElem?_setIfInBounds_self_of_lt (by simp; omega)]
    · obtain ⟨q0, q1, q2⟩ := h4 j y (by omega) hy
      refine ⟨?_, ?_, ?_⟩ <;> rw [Array.getElem?_setIfInBounds_ne (by omega), Array.getElem?_setIfInBounds_ne (by omega), Array.getElem?_setIfInBounds_ne (by omega)] <;> assumption
theorem TB.done {w : World} {g n : Nat} {ts : List Tp} (h : TB w g n n ts) (hn : ts.length = n) : Rg tpcells w (some ⟨g, 0, none⟩) ts := fun _ => by
  have hl := h.lt
  obtain ⟨cs, h1, h2, h3, h4⟩ := h
  refine ⟨g, 0, rfl, hl, fun j u hu => ?_⟩
  rw [Nat.zero_add, Lib.cell_of_heap h1]
  have hj : j < ts.length * 3 := by
    have := (List.getElem?_eq_some_iff.1 hu).1
    rwa [flat_len tpcells_len] at this
  obtain ⟨t, ht⟩ : ∃ t, ts[j / 3]? = some t := ⟨_, List.getElem?_eq_getElem (by omega)⟩
  have := flat_get tpcells_len ts (j / 3) (j % 3) _ ht (by omega)
  rw [show j / 3 * 3 + j % 3 = j by omega, hu] at this
  obtain ⟨q0, q1, q2⟩ := h4 (j / 3) t (by omega) ht
  have h3 : j % 3 = 0 ∨ j % 3 = 1 ∨ j % 3 = 2 := by omega
  rcases h3 with e | e | e
  · rw [e] at this; rw [show j = j / 3 * 3 by omega]; rw [this]; exact q0
  · rw [e] at this; rw [show j = j / 3 * 3 + 1 by omega]; rw [this]; exact q1
  · rw [e] at this; rw [show j = j / 3 * 3 + 2 by omega]; rw [this]; exact q2

theorem below_set3t {w0 w : World} {B b : Nat} (H : Below B w0 w) (hb : B ≤ b) (j : Nat) (v0 v1 v2 : Value) :
    Below B w0 (((w.setCell ⟨b, j, none⟩ v0).setCell ⟨b, j + 1, none⟩ v1).setCell ⟨b, j + 2, none⟩ v2) :=
  ((H.setCell (p := ⟨b, j, none⟩) hb _).setCell (p := ⟨b, j + 1, none⟩) hb _).setCell (p := ⟨b, j + 2, none⟩) hb _

end Go.Proofs.Ytklgjhldebdegaa

namespace Go.Proofs.Ytklgjhldebdegaa
open Go.RowKit

/-- All but what someone owns is kept. -/
def KeepO (B : Nat) (O : Nat → Prop) (w w' : World) : Prop := Below B w w' ∧ ∀ b, b < w.heap.size → ¬ O b → w'.heap[b]? = w.heap[b]?
/-- How things stand when k gates have been looked at. -/
def Goes (B : Nat) (J : (Nat → Prop) → Nat → World → Prop) (O : Nat → Prop) (w : World) (k : Nat) (w' : World) : Prop :=
  ∃ O' : Nat → Prop, J O' k w' ∧ KeepO B O w w' ∧ ∀ b, O' b → O b ∨ w.heap.size ≤ b
theorem goes_start {B : Nat} {J : (Nat → Prop) → Nat → World → Prop} {O : Nat → Prop} {w : World} {k : Nat} (h : J O k w) : Goes B J O w k w :=
  ⟨O, h, ⟨Below.refl _ _, fun _ _ _ => rfl⟩, fun _ h => Or.inl h⟩
theorem KeepO.next {B : Nat} {O O' : Nat → Prop} {w w' w'' : World} (h : KeepO B O w w') (g : KeepO B O' w' w'') (s : ∀ b, O' b → O b ∨ w.heap.size ≤ b) : KeepO B O w w'' :=
  ⟨h.1.trans g.1, fun b hb hn => (g.2 b (Nat.lt_of_lt_of_le hb h.1.size) (fun q => by rcases s b q with q | q; exact hn q; omega)).trans (h.2 b hb hn)⟩
theorem Goes.next {B : Nat} {J : (Nat → Prop) → Nat → World → Prop} {O O' : Nat → Prop} {w w' w'' : World} {k' : Nat} (h : KeepO B O w w') (s : ∀ b, O' b → O b ∨ w.heap.size ≤ b) (g : Goes B J O' w' k' w'') : Goes B J O w k' w'' := by
  obtain ⟨O2, g1, g2, g3⟩ := g
  refine ⟨O2, g1, h.next g2 s, fun b hb => ?_⟩
  rcases g3 b hb with q | q
  · exact s b q
  · exact Or.inr (Nat.le_trans h.1.size q)
theorem KeepO.more {B : Nat} {O : Nat → Prop} {w w' w'' : World} (h : KeepO B O w w') (hB : B ≤ w.heap.size) (g : Below w'.heap.size w' w'') : KeepO B O w w'' :=
  ⟨h.1.trans (g.mono (Nat.le_trans hB h.1.size)), fun b hb hn => (g.block b (Nat.lt_of_lt_of_le hb h.1.size)).trans (h.2 b hb hn)⟩
/-- A stage of products in a variable. -/
def VB (w : World) (b : Nat) (c h x : Int) (v : Value) (a : Int) (z : UInt64) (l f i u : Int) : Prop :=
  w.heap[b]? = some (.cells #[.int .i64 c, .int .i64 h, .int .i64 x, v, .int .i64 a, .int .u64 (uz z), .int .i64 l, .int .i64 f, .int .i64 i, .int .i64 u] 61 (0, 0))
theorem VB.lt {w : World} {b : Nat} {c h x : Int} {v : Value} {a : Int} {z : UInt64} {l f i u : Int} (H : VB w b c h x v a z l f i u) : b < w.heap.size := (Array.getElem?_eq_some_iff.1 H).1
theorem VB.new (w : World) (c h x : Int) (v : Value) (a : Int) (z : UInt64) (l f i u : Int) : VB (w.alloc (.cells #[.int .i64 c, .int .i64 h, .int .i64 x, v, .int .i64 a, .int .u64 (uz z), .int .i64 l, .int .i64 f, .int .i64 i, .int .i64 u] 61)) w.heap.size c h x v a z l f i u := heap_alloc_new w _
theorem VB.kept {w w' : World} {b : Nat} {c h x : Int} {v : Value} {a : Int} {z : UInt64} {l f i u : Int} (H : VB w b c h x v a z l f i u) (e : w'.heap[b]? = w.heap[b]?) : VB w' b c h x v a z l f i u := e.trans H
theorem VB.below {w w' : World} {b : Nat} {c h x : Int} {v : Value} {a : Int} {z : UInt64} {l f i u : Int} (H : VB w b c h x v a z l f i u) (hb : Below w.heap.size w w') : VB w' b c h x v a z l f i u := H.kept (hb.block b H.lt)
theorem VB.cells {w : World} {b : Nat} {c h x : Int} {v : Value} {a : Int} {z : UInt64} {l f i u : Int} (H : VB w b c h x v a z l f i u) :
    w.cell? ⟨b, 0, none⟩ = some (.int .i64 c) ∧ w.cell? ⟨b, 1, none⟩ = some (.int .i64 h) ∧ w.cell? ⟨b, 2, none⟩ = some (.int .i64 x) ∧ w.cell? ⟨b, 3, none⟩ = some v ∧ w.cell? ⟨b, 4, none⟩ = some (.int .i64 a) ∧ w.cell? ⟨b, 5, none⟩ = some (.int .u64 (uz z)) ∧ w.cell? ⟨b, 6, none⟩ = some (.int .i64 l) ∧ w.cell? ⟨b, 7, none⟩ = some (.int .i64 f) ∧ w.cell? ⟨b, 8, none⟩ = some (.int .i64 i) ∧ w.cell? ⟨b, 9, none⟩ = some (.int .i64 u) := by
  refine ⟨?_, ?_, ?_, ?_, ?_, ?_, ?_, ?_, ?_, ?_⟩ <;> (rw [Lib.cell_of_heap H]; rfl)
/-- A stage's gate, by its place and term. -/
theorem stage_term {c h x : Int} {ls : List Ly} (e : errN ⟨c, h, x, ls⟩ = 0) {s l f u q : Nat} (hs : s < (stagesN ⟨c, h, x, ls⟩).length) (hl : l = stgN ⟨c, h, x, ls⟩ s) (hf : f = fromN ⟨c, h, x, ls⟩ s)
    (hu : (atN ⟨c, h, x, ls⟩ (l : Int)).u.n = (u : Int)) (hq : q = (perK (atN ⟨c, h, x, ls⟩ (l : Int))).toNat) {p r : Nat} (hp : p < u) (hr : r < q) :
    ∃ t : Tm, (termsN ⟨c, h, x, ls⟩ (l : Int) (p : Int))[r]? = some t ∧ gtN ⟨c, h, x, ls⟩ (f + (p * q + r)) = ⟨(l : Int), (p : Int), (r : Int), t.x, t.w⟩ := by
  subst hl hf hq
  obtain ⟨t, h1, h2⟩ := stage_gate e hs (p := p) (j := r) (by omega) hr
  exact ⟨t, by rw [show termsN ⟨c, h, x, ls⟩ ((stgN ⟨c, h, x, ls⟩ s : Nat) : Int) (p : Int) = termsK (atN ⟨c, h, x, ls⟩ ((stgN ⟨c, h, x, ls⟩ s : Nat) : Int)) (p : Int) from if_pos (has_yes (by omega) (by omega))]; exact h1, h2⟩
theorem stage_terms {c h x : Int} {ls : List Ly} (e : errN ⟨c, h, x, ls⟩ = 0) {s l u q : Nat} (hs : s < (stagesN ⟨c, h, x, ls⟩).length) (hl : l = stgN ⟨c, h, x, ls⟩ s)
    (hu : (atN ⟨c, h, x, ls⟩ (l : Int)).u.n = (u : Int)) (hq : q = (perK (atN ⟨c, h, x, ls⟩ (l : Int))).toNat) {p : Nat} (hp : p < u) : (termsN ⟨c, h, x, ls⟩ (l : Int) (p : Int)).length = q := by
  subst hl hq
  obtain ⟨g, _⟩ := stage_good e hs
  rw [show termsN ⟨c, h, x, ls⟩ ((stgN ⟨c, h, x, ls⟩ s : Nat) : Int) (p : Int) = termsK (atN ⟨c, h, x, ls⟩ ((stgN ⟨c, h, x, ls⟩ s : Nat) : Int)) (p : Int) from if_pos (has_yes (by omega) (by omega))]
  have := terms_len g (p : Int)
  omega
theorem stage_count {c h x : Int} {ls : List Ly} (e : errN ⟨c, h, x, ls⟩ = 0) {s l f u q m : Nat} (hs : s < (stagesN ⟨c, h, x, ls⟩).length) (hl : l = stgN ⟨c, h, x, ls⟩ s) (hf : f = fromN ⟨c, h, x, ls⟩ s) (hm : m = manyN ⟨c, h, x, ls⟩ s)
    (hu : (atN ⟨c, h, x, ls⟩ (l : Int)).u.n = (u : Int)) (hq : q = (perK (atN ⟨c, h, x, ls⟩ (l : Int))).toNat) : m = u * q ∧ f + m ≤ 512 ∧ u ≤ 128 ∧ q ≤ 512 ∧ 1 ≤ u := by
  subst hl hf hq hm
  obtain ⟨g, k3⟩ := stage_good e hs
  have r2 := (stage_range e hs).2
  have bd := many_bd e hs
  have gb := gates_bd (c := c) (h := h) (x := x) (ls := ls)
  have ub := size_bd (atN ⟨c, h, x, ls⟩ ((stgN ⟨c, h, x, ls⟩ s : Nat) : Int)).u
  have up := size_pos g.ur
  rw [hu, Int.toNat_natCast] at r2
  have u1 : 1 ≤ u := by omega
  refine ⟨r2, by omega, by omega, ?_, u1⟩
  have : 1 * (perK (atN ⟨c, h, x, ls⟩ ((stgN ⟨c, h, x, ls⟩ s : Nat) : Int))).toNat ≤ u * (perK (atN ⟨c, h, x, ls⟩ ((stgN ⟨c, h, x, ls⟩ s : Nat) : Int))).toNat := Nat.mul_le_mul_right _ u1
  omega
theorem uz_next (k : Nat) : IntKind.u64.wrap (uz (UInt64.ofNat k) + 1) = uz (UInt64.ofNat (k + 1)) := by
  have := uz_add (UInt64.ofNat k) 1
  rw [show (uz 1) = 1 from rfl] at this
  rw [this]
  congr 1
  simp

set_option maxHeartbeats 8000000 in
set_option maxRecDepth 100000 in
theorem each13 (F : Nat) (P : Value) (J : (Nat → Prop) → Nat → World → Prop) (w0 : World)
    (hE : ∀ args w, Sem.run Try.prog (callFunc F args) w = .ok (.enter F args) w)
    (hO : ∀ O k w, J O k w → ∀ b, O b → w0.heap.size ≤ b ∧ b < w.heap.size)
    (hS : ∀ O k w w', J O k w → Below w.heap.size w w' → J O k w')
    (c h x : Int) (A : Option Addr) (cA n : Nat) (ls : List Ly) (a : Int) (z : UInt64) (s l f u m : Nat) (i : Int) (hx : Rl w0 A ls) (ln : n = ls.length) (hn : n ≤ 60)
    (he : errN ⟨c, h, x, ls⟩ = 0) (hs : s < (stagesN ⟨c, h, x, ls⟩).length) (hl : l = stgN ⟨c, h, x, ls⟩ s) (hf : f = fromN ⟨c, h, x, ls⟩ s) (hm : m = manyN ⟨c, h, x, ls⟩ s) (hu : (atN ⟨c, h, x, ls⟩ (l : Int)).u.n = (u : Int))
    (hJ : ∀ O k w, k < m → J O k w → Calls Try.prog F #[P, .int .i64 (gtN ⟨c, h, x, ls⟩ (f + k)).a, .agg #[.int .i64 (gtN ⟨c, h, x, ls⟩ (f + k)).x, .int .i64 (gtN ⟨c, h, x, ls⟩ (f + k)).w], tpv (halfU z a (UInt64.ofNat (f + k)))] w fun e w' => e = .returned (.tuple #[]) ∧ ∃ O', J O' (k + 1) w' ∧ KeepO w0.heap.size O w w' ∧ ∀ b, O' b → O b ∨ w.heap.size ≤ b)
    (O : Nat → Prop) (w : World) (hb : Below w0.heap.size w0 w) (h0 : J O 0 w) :
    Calls Try.prog 106 #[.agg #[.int .i64 c, .int .i64 h, .int .i64 x, .slice A n cA, .int .i64 a, .int .u64 (uz z), .int .i64 (l : Int), .int .i64 (f : Int), .int .i64 i, .int .i64 (u : Int)], .func (.func F) #[P] #[]] w fun e w' => e = .returned (.tuple #[]) ∧ Goes w0.heap.size J O w m w' := by
  obtain ⟨q, hq⟩ : ∃ q, q = (perK (atN ⟨c, h, x, ls⟩ (l : Int))).toNat := ⟨_, rfl⟩
  obtain ⟨m1, m2, m3, m4, m5⟩ := stage_count he hs hl hf hm hu hq
  have ST : Hid (∀ p r : Nat, p < u → r < q → ∃ t : Tm, (termsN ⟨c, h, x, ls⟩ (l : Int) (p : Int))[r]? = some t ∧ gtN ⟨c, h, x, ls⟩ (f + (p * q + r)) = ⟨(l : Int), (p : Int), (r : Int), t.x, t.w⟩) := fun p r hp hr => stage_term he hs hl hf hu hq hp hr
  have TL : Hid (∀ p : Nat, p < u → (termsN ⟨c, h, x, ls⟩ (l : Int) (p : Int)).length = q) := fun p hp => stage_terms he hs hl hu hq hp
  have M1 := Lib.hid m1
  have HO := Lib.hid hO; have HS := Lib.hid hS; have HJ := Lib.hid hJ
  have HX := Lib.hid hx; have LX := Lib.hid ln
  have hn1 : n ≤ 1000 := by omega
  have s0 := hb.size
  have OW : Hid (∀ b, O b → b < w.heap.size) := fun b q => (hO _ _ _ h0 b q).2
  have u1 : IntKind.u64.wrap (f : Int) = uz (UInt64.ofNat f) := uz_conv f
  obtain ⟨g0, hg0⟩ : ∃ g0, g0 = UInt64.ofNat f := ⟨_, rfl⟩
  rw [← hg0] at u1
  have G0 := Lib.hid hg0
  have P0 := VB.new w c h x (.slice A n cA) a z l f i u
  have JA := hS _ _ _ _ h0 (chain_alloc (Below.refl _ w) (.cells #[.int .i64 c, .int .i64 h, .int .i64 x, .slice A n cA, .int .i64 a, .int .u64 (uz z), .int .i64 (l : Int), .int .i64 (f : Int), .int .i64 i, .int .i64 (u : Int)] 61))
  have BA := chain_alloc (Below.refl _ w) (.cells #[.int .i64 c, .int .i64 h, .int .i64 x, .slice A n cA, .int .i64 a, .int .u64 (uz z), .int .i64 (l : Int), .int .i64 (f : Int), .int .i64 i, .int .i64 (u : Int)] 61)
  have PL := P0.lt
  clear hO hS hJ hx ln he hs hl hf hm hu hq m1 hg0 h0
  go_enter Try.func106, Try.ntmps106
  go_wp2_with fail
  obtain ⟨wA, hwA⟩ : ∃ wA, wA = w.alloc (.cells #[.int .i64 c, .int .i64 h, .int .i64 x, .slice A n cA, .int .i64 a, .int .u64 (uz z), .int .i64 (l : Int), .int .i64 (f : Int), .int .i64 i, .int .i64 (u : Int)] 61) := ⟨_, rfl⟩
  obtain ⟨bp, hbp⟩ : ∃ bp, bp = w.heap.size := ⟨_, rfl⟩
  rw [← hwA] at P0 JA BA PL ⊢
  rw [← hbp] at P0 BA PL OW s0 ⊢
  have WK : Hid (∀ b, b < bp → wA.heap[b]? = w.heap[b]?) := fun b hb => BA.block b (by omega)
  have BW : Hid (Below w0.heap.size w0 wA) := hb.trans (BA.mono s0)
  have PA := Lib.hid P0
  have GA : Hid (Goes w0.heap.size J O wA 0 wA) := goes_start JA
  have NB : Hid (¬ O bp) := fun q => by have := OW.out _ q; omega
  have SA : Hid (w0.heap.size ≤ wA.heap.size) := BW.out.size
  have WA : Hid (Below w0.heap.size w wA) := BA.mono s0
  obtain ⟨c0, c1, c2, c3, c4, c5, c6, c7, c8, c9⟩ := P0.cells
  clear hwA P0 JA BA hb
  go_wp2_with fail
  clear c0 c1 c2 c3 c4 c5 c6 c7 c8 c9
  have HBP := Lib.hid hbp
  clear hbp s0
  go_loopg [4, 5, 7, 13] u (fun gh s4 _ _ s13 wx => ∃ (p : Nat) (gv : UInt64), p ≤ u ∧ Hid (gh = u - p) ∧ Hid (gv = UInt64.ofNat (f + p * q)) ∧ s4 = .int .u64 (uz gv) ∧ s13 = .int .i64 (p : Int) ∧ Hid (Goes w0.heap.size J O wA (p * q) wx))
  case atStart => exact ⟨0, g0, by omega, by show _ = _; omega, by show _ = _; rw [G0.out, Nat.zero_mul, Nat.add_zero], rfl, rfl, by rw [Nat.zero_mul]; exact GA.out⟩
  case round =>
    obtain ⟨p, gv, hp, HG, HV, rfl, rfl, GK⟩ := hrel
    obtain ⟨O1, j1, kp1, sub1⟩ := GK.out
    have J1 := Lib.hid j1; have K1 := Lib.hid kp1; have S1 := Lib.hid sub1
    have nb1 : ¬ O1 bp := fun q => by rcases sub1 bp q with q | q; exact NB.out q; omega
    have pk := PA.out.kept (kp1.2 bp PL NB.out)
    have PK := Lib.hid pk
    have PL1 := pk.lt
    obtain ⟨c0, c1, c2, c3, c4, c5, c6, c7, c8, c9⟩ := pk.cells
    have NB1 := Lib.hid nb1
    clear j1 kp1 sub1 nb1 pk
    by_cases pu : p < u
    · have pi : (p : Int) < (u : Int) := by omega
      have dp : decide ((p : Int) < (u : Int)) = true := decide_eq_true pi
      obtain ⟨ts, hts⟩ : ∃ ts, termsN ⟨c, h, x, ls⟩ (l : Int) (p : Int) = ts := ⟨_, rfl⟩
      have HTS := Lib.hid hts
      have tl := TL.out p pu
      rw [hts] at tl
      have LT := Lib.hid tl
      clear hts tl
      go_wp2_with fail
      refine (terms_new c h x A cA n ls (l : Int) (p : Int) ts HTS.out _ (HX.out.below (BW.out.trans K1.out.1)) LX.out hn1).mono ?_
      rintro e w2 ⟨A2, k2, n2, rfl, hn2, hR2, hb2, hd1, hd2, hnew⟩
      have n2q : n2 = q := by rw [hn2]; exact LT.out
      subst n2q
      have R2 := Lib.hid hR2
      have J2 := Lib.hid (HS.out _ _ _ _ J1.out hb2)
      have K2 := Lib.hid (K1.out.more SA.out hb2)
      have P2 := Lib.hid (PK.out.below hb2)
      have NW := Lib.hid hnew
      have O1L : Hid (∀ b, O1 b → b < wr.heap.size) := fun b q => (HO.out _ _ _ J1.out b q).2
      have PL2 := Nat.lt_of_lt_of_le PL1 hb2.size
      have LN2 := Lib.hid hn2
      clear hn2 hR2 hb2 hd1 hd2 hnew c0 c1 c2 c3 c4 c5 c6 c7 c8 c9
      go_wp2_with fail
      go_loopg [4, 7, 23] n2 (fun gh s4 _ s23 wx => ∃ (r : Nat) (g : UInt64), r ≤ n2 ∧ Hid (gh = n2 - r) ∧ Hid (g = UInt64.ofNat (f + (p * n2 + r))) ∧ s4 = .int .u64 (uz g) ∧ s23 = .int .i64 (r : Int) ∧ Hid (Goes w0.heap.size J O1 w2 (p * n2 + r) wx))
      case atStart => exact ⟨0, gv, by omega, by show _ = _; omega, HV.out, rfl, rfl, goes_start J2.out⟩
      case round =>
        obtain ⟨r, g, hr, HG2, HGV, rfl, rfl, GR⟩ := hrel
        by_cases rq : r < n2
        · have ri : (r : Int) < (n2 : Int) := by omega
          have r0 : (0 : Int) ≤ (r : Int) := by omega
          have dr : decide ((r : Int) < (n2 : Int)) = true := decide_eq_true ri
          obtain ⟨O3, j3, kp3, sub3⟩ := GR.out
          obtain ⟨t, ht, hgt⟩ := ST.out p r pu rq
          rw [HTS.out] at ht
          obtain ⟨bR, oR, rfl, lR, qR⟩ := R2.out (by rw [LT.out]; omega)
          obtain ⟨y0, y1⟩ := t_cells2 qR ht
          have nR : ¬ O1 bR := fun q => by have := O1L.out _ q; have := NW.out ⟨bR, oR, none⟩ rfl; dsimp only at this; omega
          have eR := kp3.2 bR lR nR
          have x0 : wr.cell? ⟨bR, oR + r * 2, none⟩ = some (.int .i64 t.x) := (World.cell?_of_block eR).trans y0
          have x1 : wr.cell? ⟨bR, oR + r * 2 + 1, none⟩ = some (.int .i64 t.w) := (World.cell?_of_block eR).trans y1
          have pk := P2.out.kept (kp3.2 bp PL2 NB1.out)
          have PL3 := pk.lt
          obtain ⟨c0, c1, c2, c3, c4, c5, c6, c7, c8, c9⟩ := pk.cells
          have nb3 : ¬ O3 bp := fun q => by rcases sub3 bp q with q | q; exact NB1.out q; omega
          have O3L : Hid (∀ b, O3 b → b < wr.heap.size) := fun b q => (HO.out _ _ _ j3 b q).2
          have J3 := Lib.hid j3; have K3 := Lib.hid kp3; have S3 := Lib.hid sub3; have NB3 := Lib.hid nb3
          obtain ⟨kk, hkk⟩ : ∃ kk, kk = f + (p * n2 + r) := ⟨_, rfl⟩
          have KM : Hid (p * n2 + r < m) := by
            show _ < _
            rw [M1.out]
            have : (p + 1) * n2 ≤ u * n2 := Nat.mul_le_mul_right _ pu
            rw [Nat.succ_mul] at this
            omega
          have hg : g = UInt64.ofNat kk := by rw [hkk]; exact HGV.out
          obtain ⟨tr, htr⟩ : ∃ tr, tr = halfU z a g := ⟨_, rfl⟩
          have CF : Hid (∀ w, J O3 (p * n2 + r) w → Calls Try.prog F #[P, .int .i64 (p : Int), .agg #[.int .i64 t.x, .int .i64 t.w], .agg #[.int .u64 (uz tr.a), .int .u64 (uz tr.b), .int .u64 (uz tr.c)]] w fun e w' => e = .returned (.tuple #[]) ∧ ∃ O', J O' (p * n2 + r + 1) w' ∧ KeepO w0.heap.size O3 w w' ∧ ∀ b, O' b → O3 b ∨ w.heap.size ≤ b) := fun w hj => by
            have := HJ.out O3 (p * n2 + r) w KM.out hj
            rw [hgt, ← hkk, ← hg, ← htr] at this
            exact this
          have CH : Hid (∀ w, Calls Try.prog 109 #[.int .u64 (uz z), .int .i64 a, .int .u64 (uz g)] w fun e w' => e = .returned (.agg #[.int .u64 (uz tr.a), .int .u64 (uz tr.b), .int .u64 (uz tr.c)]) ∧ Below w.heap.size w w') := fun w => by rw [htr]; exact half11 z a g w
          obtain ⟨g', hg'⟩ : ∃ g', g' = UInt64.ofNat (f + (p * n2 + (r + 1))) := ⟨_, rfl⟩
          have gn : IntKind.u64.wrap (uz g + 1) = uz g' := by rw [hg, hg', hkk, show f + (p * n2 + (r + 1)) = f + (p * n2 + r) + 1 by omega]; exact uz_next _
          have GN := Lib.hid gn; have HGP := Lib.hid hg'
          obtain ⟨tx, tw⟩ := t
          dsimp only at x0 x1 CF
          have B4 := Lib.hid (chain_alloc (Below.refl _ wr) (.cells #[.int .i64 tx, .int .i64 tw] 116))
          have t0 : (wr.alloc (.cells #[.int .i64 tx, .int .i64 tw] 116)).cell? ⟨wr.heap.size, 0, none⟩ = some (.int .i64 tx) := by rw [Lib.cell_of_heap (heap_alloc_new wr _)]; rfl
          have t1 : (wr.alloc (.cells #[.int .i64 tx, .int .i64 tw] 116)).cell? ⟨wr.heap.size, 1, none⟩ = some (.int .i64 tw) := by rw [Lib.cell_of_heap (heap_alloc_new wr _)]; rfl
          have lt0 := Lib.hid (show wr.heap.size < (wr.alloc (.cells #[.int .i64 tx, .int .i64 tw] 116)).heap.size by simp)
          clear ht hgt qR y0 y1 eR pk nb3 j3 kp3 sub3 hg htr hg' gn hkk c0 c1 c2 c3 c6 c7 c8 c9
          go_wp2_with fail
          generalize wr.alloc (.cells #[.int .i64 tx, .int .i64 tw] 116) = w4 at t0 t1 lt0 B4 ⊢
          obtain ⟨tb, htb⟩ : ∃ tb, tb = wr.heap.size := ⟨_, rfl⟩
          rw [← htb] at t0 t1 lt0 ⊢
          replace c4 := (B4.out.cell (p := ⟨bp, 4, none⟩) PL3).trans c4
          replace c5 := (B4.out.cell (p := ⟨bp, 5, none⟩) PL3).trans c5
          have l4 := Nat.lt_of_lt_of_le PL3 B4.out.size
          have l5 := l4
          have l0 := lt0.out
          have l1 := lt0.out
          have NT : Hid (¬ O3 tb) := fun q => by have := O3L.out _ q; omega
          have J4 := Lib.hid (HS.out _ _ _ _ J3.out B4.out)
          clear x0 x1 htb lt0
          refine wp_region_noPanic ?_
          refine wp_region_held_drew (S := fun w' => w'.cell? ⟨tb, 0, none⟩ = some (.int .i64 tx) ∧ w'.cell? ⟨tb, 1, none⟩ = some (.int .i64 tw) ∧ w'.cell? ⟨bp, 4, none⟩ = some (.int .i64 a) ∧ w'.cell? ⟨bp, 5, none⟩ = some (.int .u64 (uz z))) (by kernel_rfl) ⟨t0, t1, c4, c5⟩ (fun hHeld => ?_)
          have hd := below_drew w4
          replace t0 := (hd.cell (p := ⟨tb, 0, none⟩) l0).trans t0
          replace l0 := Nat.lt_of_lt_of_le l0 hd.size
          replace t1 := (hd.cell (p := ⟨tb, 1, none⟩) l1).trans t1
          replace l1 := Nat.lt_of_lt_of_le l1 hd.size
          replace c4 := (hd.cell (p := ⟨bp, 4, none⟩) l4).trans c4
          replace l4 := Nat.lt_of_lt_of_le l4 hd.size
          replace c5 := (hd.cell (p := ⟨bp, 5, none⟩) l5).trans c5
          replace l5 := Nat.lt_of_lt_of_le l5 hd.size
          generalize w4.drew = wq1 at hHeld hd t0 l0 t1 l1 c4 l4 c5 l5 ⊢
          have BD : Hid (Below wq1.heap.size wq1 wq1) := Below.refl _ _
          refine wpAnyH_take (i := 0) (v := ?vv3001) (by simp only [List.getElem?_toArray, List.getElem?_cons_zero]; rfl) (by kernel_rfl) (by kernel_rfl) (by kernel_rfl) (fun _ _ _ h => h) (Or.inl ⟨by rfl, ?yy3001⟩) (by assumption) ?rr3001
          case yy3001 => (intro w hSw; (try dsimp only at hSw); go_simp; first | done | with_reducible rfl)
          simp only [Act.put, List.setIfInBounds_toArray, List.set_cons_zero, List.set_cons_succ]
          refine wpAnyH_take (i := 1) (v := ?vv3002) (by simp only [List.getElem?_toArray, List.getElem?_cons_zero, List.getElem?_cons_succ]; rfl) (by kernel_rfl) (by kernel_rfl) (by kernel_rfl) (fun _ _ _ h => h) (Or.inl ⟨by rfl, ?yy3002⟩) (by assumption) ?rr3002
          case yy3002 => (intro w hSw; (try dsimp only at hSw); go_simp; first | done | with_reducible rfl)
          simp only [Act.put, List.setIfInBounds_toArray, List.set_cons_zero, List.set_cons_succ]
          refine wpAnyH_take (i := 2) (v := ?vv3003) (by simp only [List.getElem?_toArray, List.getElem?_cons_zero, List.getElem?_cons_succ]; rfl) (by kernel_rfl) (by kernel_rfl) (by kernel_rfl) (fun _ _ _ h => h) (Or.inl ⟨by rfl, ?yy3003⟩) (by assumption) ?rr3003
          case yy3003 => (intro w hSw; (try dsimp only at hSw); go_simp; first | done | with_reducible rfl)
          simp only [Act.put, List.setIfInBounds_toArray, List.set_cons_zero, List.set_cons_succ]
          refine wpAnyH_take (i := 3) (v := ?vv3004) (by simp only [List.getElem?_toArray, List.getElem?_cons_zero, List.getElem?_cons_succ]; rfl) (by kernel_rfl) (by kernel_rfl) (by kernel_rfl) (fun _ _ _ h => h) (Or.inl ⟨by rfl, ?yy3004⟩) (by assumption) ?rr3004
          case yy3004 => (intro w hSw; (try dsimp only at hSw); go_simp; first | done | with_reducible rfl)
          simp only [Act.put, List.setIfInBounds_toArray, List.set_cons_zero, List.set_cons_succ]
          refine wpAnyH_take (i := 4) (v := ?vv3005) (by simp only [List.getElem?_toArray, List.getElem?_cons_zero, List.getElem?_cons_succ]; rfl) (by kernel_rfl) (by kernel_rfl) (by kernel_rfl) (fun _ _ _ h => h) (Or.inl ⟨by rfl, ?yy3005⟩) (by assumption) ?rr3005
          case yy3005 => (intro w hSw; (try dsimp only at hSw); go_simp; first | done | with_reducible rfl)
          simp only [Act.put, List.setIfInBounds_toArray, List.set_cons_zero, List.set_cons_succ]
          refine wpAnyH_take (i := 5) (v := ?vv3006) (by simp only [List.getElem?_toArray, List.getElem?_cons_zero, List.getElem?_cons_succ]; rfl) (by kernel_rfl) (by kernel_rfl) (by kernel_rfl) (fun _ _ _ h => h) (Or.inl ⟨by rfl, ?yy3006⟩) (by assumption) ?rr3006
          case yy3006 => (intro w hSw; (try dsimp only at hSw); go_simp; first | done | with_reducible rfl)
          simp only [Act.put, List.setIfInBounds_toArray, List.set_cons_zero, List.set_cons_succ]
          refine wpAnyH_take (i := 6) (v := ?vv3007) (by simp only [List.getElem?_toArray, List.getElem?_cons_zero, List.getElem?_cons_succ]; rfl) (by kernel_rfl) (by kernel_rfl) (by kernel_rfl) (fun _ _ _ h => h) (Or.inl ⟨by rfl, ?yy3007⟩) (by assumption) ?rr3007
          case yy3007 => (intro w hSw; (try dsimp only at hSw); go_simp; first | done | with_reducible rfl)
          simp only [Act.put, List.setIfInBounds_toArray, List.set_cons_zero, List.set_cons_succ]
          refine wpAnyH_take (i := 7) (v := ?vv3008) (by simp only [List.getElem?_toArray, List.getElem?_cons_zero, List.getElem?_cons_succ]; rfl) (by kernel_rfl) (by kernel_rfl) (by kernel_rfl) (fun _ _ _ h => h) (Or.inl ⟨by rfl, ?yy3008⟩) (by assumption) ?rr3008
          case yy3008 => (intro w hSw; (try dsimp only at hSw); go_simp; first | done | with_reducible rfl)
          simp only [Act.put, List.setIfInBounds_toArray, List.set_cons_zero, List.set_cons_succ]
          refine wpAnyH_ready (rs := [8]) (by kernel_rfl) (by simp) ?_
          refine AllReadyH.cons (by simp only [List.getElem?_toArray, List.getElem?_cons_zero, List.getElem?_cons_succ]; rfl) (fun K hK => ?_) ?_
          · skip
            go_simp
            go_at_call 109
            (with_reducible refine (CH.out _).mono ?_)
            rintro e wq2 ⟨rfl, hb⟩
            clear hHeld
            replace BD := Lib.hid (chain BD.out hb)
            clear hb
            go_wp2_with fail
            refine hK.out _ _ ⟨(BD.out.cell (p := ⟨tb, 0, none⟩) l0).trans t0, (BD.out.cell (p := ⟨tb, 1, none⟩) l1).trans t1, (BD.out.cell (p := ⟨bp, 4, none⟩) l4).trans c4, (BD.out.cell (p := ⟨bp, 5, none⟩) l5).trans c5⟩ (fun hHeld => ?_)
            clear hK K
            try simp only [Act.put, List.setIfInBounds_toArray, List.set_cons_zero, List.set_cons_succ]
            refine wpAnyH_ready (rs := [9]) (by kernel_rfl) (by simp) ?_
            refine AllReadyH.cons (by simp only [List.getElem?_toArray, List.getElem?_cons_zero, List.getElem?_cons_succ]; rfl) (fun K hK => ?_) ?_
            · skip
              go_simp
              (with_reducible refine (CF.out _ (HS.out _ _ _ _ J4.out (chain hd BD.out))).mono ?_)
              rintro e wq3 ⟨rfl, O5, j5, kp5, sub5⟩
              clear hHeld
              go_wp2_with fail
              refine hK.out _ _ ⟨(World.cell?_of_block (a := ⟨tb, 0, none⟩) (kp5.2 _ (Nat.lt_of_lt_of_le l0 BD.out.size) NT.out)).trans ((BD.out.cell (p := ⟨tb, 0, none⟩) l0).trans t0), (World.cell?_of_block (a := ⟨tb, 1, none⟩) (kp5.2 _ (Nat.lt_of_lt_of_le l1 BD.out.size) NT.out)).trans ((BD.out.cell (p := ⟨tb, 1, none⟩) l1).trans t1), (World.cell?_of_block (a := ⟨bp, 4, none⟩) (kp5.2 _ (Nat.lt_of_lt_of_le l4 BD.out.size) NB3.out)).trans ((BD.out.cell (p := ⟨bp, 4, none⟩) l4).trans c4), (World.cell?_of_block (a := ⟨bp, 5, none⟩) (kp5.2 _ (Nat.lt_of_lt_of_le l5 BD.out.size) NB3.out)).trans ((BD.out.cell (p := ⟨bp, 5, none⟩) l5).trans c5)⟩ (fun hHeld => ?_)
              have BF := chain B4.out (chain hd BD.out)
              have G5 : Hid (Goes w0.heap.size J O1 w2 (p * n2 + (r + 1)) wq3) := Goes.next (K3.out.more (Nat.le_trans SA.out (Nat.le_of_lt_succ (Nat.lt_succ_of_le K2.out.1.size))) BF) S3.out ⟨O5, j5, kp5, sub5⟩
              clear hK K kp5 j5 sub5 BF
              try simp only [Act.put, List.setIfInBounds_toArray, List.set_cons_zero, List.set_cons_succ]
              refine wpAnyH_done (by kernel_rfl) ?_ _
              refine NoPanic.normal ?_
              clear hHeld
              clear hd BD t0 t1 c4 c5
              have gn := GN.out
              go_wp2_with fail
              clear gn
              go_roundg (n2 - (r + 1))
              case measure => have := HG2.out; omega
              case rel => exact ⟨r + 1, g', by omega, rfl, HGP.out, rfl, by go_num, G5⟩
            exact AllReadyH.nil
          exact AllReadyH.nil
        · obtain rfl : r = n2 := by omega
          have dr : decide ((r : Int) < (r : Int)) = false := decide_eq_false (Int.lt_irrefl _)
          have GE : Hid (Goes w0.heap.size J O wA ((p + 1) * r) wr) := by
            show Goes _ _ _ _ _ _
            rw [Nat.succ_mul]
            exact Goes.next K2.out S1.out GR.out
          go_wp2_with fail
          go_roundg (u - (p + 1))
          case measure => have := HG.out; omega
          case rel => exact ⟨p + 1, g, by omega, rfl, by show _ = _; rw [Nat.succ_mul]; exact HGV.out, rfl, by go_num, GE⟩
    · obtain rfl : p = u := by omega
      have dp : decide ((p : Int) < (p : Int)) = false := decide_eq_false (Int.lt_irrefl _)
      have GF : Hid (Goes w0.heap.size J O w m wr) := by
        show Goes _ _ _ _ _ _
        rw [M1.out]
        obtain ⟨O1, j1, kp1, sub1⟩ := GK.out
        refine ⟨O1, j1, ⟨WA.out.trans kp1.1, fun b hb hn => (kp1.2 b (by have := HBP.out; omega) hn).trans (WK.out b (by rw [HBP.out]; exact hb))⟩, fun b q => ?_⟩
        rcases sub1 b q with q | q
        · exact Or.inl q
        · exact Or.inr (by have := HBP.out; omega)
      go_wp2_with fail
      go_end0
      exact ⟨rfl, GF.out⟩

end Go.Proofs.Ytklgjhldebdegaa

namespace Go.Proofs.Ytklgjhldebdegaa
open Go.RowKit

set_option maxHeartbeats 1000000 in
set_option maxRecDepth 100000 in
theorem hide12 (t : Tp) (x y : UInt64) (w : World) : Calls Try.prog 114 #[tpv t, .int .u64 (uz x), .int .u64 (uz y)] w fun e w' => e = .returned (onv (openU x y t)) ∧ Below w.heap.size w w' := by
  have e1 : IntKind.u64.wrap (uz x - uz t.a) = uz (x - t.a) := uz_sub _ _
  have e2 : IntKind.u64.wrap (uz y - uz t.b) = uz (y - t.b) := uz_sub _ _
  unfold tpv
  go_enter Try.func114, Try.ntmps114
  go_wp2_with fail
  exact bodyPost_ret (v := onv (openU x y t)) (by simp [results, Try.results114, go_sem, onv, openU]) rfl ⟨rfl, by first | exact chain_alloc (chain_alloc (Below.refl _ w) _) _ | exact below_set2 (chain_alloc (chain_alloc (Below.refl _ w) _) _) (by omega) _ _⟩

set_option maxHeartbeats 1000000 in
set_option maxRecDepth 100000 in
theorem part12 (a : Int) (o : On) (t : Tp) (w : World) : Calls Try.prog 113 #[.agg #[.int .u64 (uz t.a), .int .u64 (uz t.b), .int .u64 (uz t.c), .int .u64 (uz o.d), .int .u64 (uz o.e)], .int .i64 a] w fun e w' => e = .returned (.int .u64 (uz (closeU a o t))) ∧ Below w.heap.size w w' := by
  have e1 : IntKind.u64.wrap (uz o.d * uz t.b) = uz (o.d * t.b) := uz_mul _ _
  have e2 : IntKind.u64.wrap (uz t.c + uz (o.d * t.b)) = uz (t.c + o.d * t.b) := uz_add _ _
  have e3 : IntKind.u64.wrap (uz o.e * uz t.a) = uz (o.e * t.a) := uz_mul _ _
  have e4 : IntKind.u64.wrap (uz (t.c + o.d * t.b) + uz (o.e * t.a)) = uz (t.c + o.d * t.b + o.e * t.a) := uz_add _ _
  have e5 : IntKind.u64.wrap (uz o.d * uz o.e) = uz (o.d * o.e) := uz_mul _ _
  have e6 : IntKind.u64.wrap (uz (t.c + o.d * t.b + o.e * t.a) + uz (o.d * o.e)) = uz (t.c + o.d * t.b + o.e * t.a + o.d * o.e) := uz_add _ _
  by_cases h0 : a = 0
  · have d : (a == 0) = true := by simp [h0]
    have E : Hid (closeU a o t = t.c + o.d * t.b + o.e * t.a + o.d * o.e) := if_pos h0
    clear h0
    go_enter Try.func113, Try.ntmps113
    go_wp2_with fail
    go_ret
    exact ⟨by rw [E.out]; rfl, chain_alloc (Below.refl _ w) _⟩
  · have d : (a == 0) = false := by simp [h0]
    have E : Hid (closeU a o t = t.c + o.d * t.b + o.e * t.a) := if_neg h0
    clear h0
    go_enter Try.func113, Try.ntmps113
    go_wp2_with fail
    go_ret
    exact ⟨by rw [E.out]; rfl, chain_alloc (Below.refl _ w) _⟩

set_option maxHeartbeats 1000000 in
set_option maxRecDepth 100000 in
theorem open12 (x y : UInt64) (t : Tp) (w : World) : Calls Try.prog 111 #[.int .u64 (uz x), .int .u64 (uz y), tpv t] w fun e w' => e = .returned (onv (openU x y t)) ∧ Below w.heap.size w w' := by
  have CN : Hid (∀ w, Calls Try.prog 114 #[.agg #[.int .u64 (uz t.a), .int .u64 (uz t.b), .int .u64 (uz t.c)], .int .u64 (uz x), .int .u64 (uz y)] w fun e w' => e = .returned (.agg #[.int .u64 (uz (openU x y t).d), .int .u64 (uz (openU x y t).e)]) ∧ Below w.heap.size w w') := fun w => hide12 t x y w
  unfold tpv onv
  obtain ⟨o, ho⟩ : ∃ o, o = openU x y t := ⟨_, rfl⟩
  rw [← ho] at CN ⊢
  clear ho
  go_enter Try.func111, Try.ntmps111
  go_wp2_with fail
  refine (CN.out _).mono ?_
  rintro e w2 ⟨rfl, hb⟩
  obtain ⟨V, hV⟩ : ∃ V, V = w.alloc (.cells #[.int .u64 (uz t.a), .int .u64 (uz t.b), .int .u64 (uz t.c)] 152) := ⟨_, rfl⟩
  have hs : V.heap.size = w.heap.size + 1 := by rw [hV]; simp
  obtain ⟨z, hz⟩ : ∃ z, z = w.heap.size + 1 := ⟨_, rfl⟩
  have zl : w.heap.size ≤ z := by omega
  have Z : Hid (OC w2 z On.z) := by
    rw [hz, ← hs]
    refine OC.below (o := On.z) (heap_alloc_new V _) ?_
    rw [hV]
    exact hb
  have B : Hid (Below w.heap.size w w2) := (chain_alloc (chain_alloc (Below.refl _ w) _) _).trans (hb.mono (by simp; omega))
  rw [← hz]
  clear hb hV hs hz
  obtain ⟨y0, y1⟩ := Z.out.cells
  have f0 := Z.out.frozen 0
  have f1 := Z.out.frozen 1
  have lz := Z.out.lt
  go_wp2_with fail
  have Z2 := Lib.hid (Z.out.set o)
  obtain ⟨x0, x1⟩ := Z2.out.cells
  exact bodyPost_ret (v := .agg #[.int .u64 (uz o.d), .int .u64 (uz o.e)]) (by simp [results, Try.results111, go_sem, x0, x1]) rfl ⟨rfl, below_set2 B.out zl _ _⟩

set_option maxHeartbeats 1000000 in
set_option maxRecDepth 100000 in
theorem close12 (a : Int) (o : On) (t : Tp) (w : World) : Calls Try.prog 110 #[.int .i64 a, onv o, tpv t] w fun e w' => e = .returned (.int .u64 (uz (closeU a o t))) ∧ Below w.heap.size w w' := by
  have CN : Hid (∀ w, Calls Try.prog 113 #[.agg #[.int .u64 (uz t.a), .int .u64 (uz t.b), .int .u64 (uz t.c), .int .u64 (uz o.d), .int .u64 (uz o.e)], .int .i64 a] w fun e w' => e = .returned (.int .u64 (uz (closeU a o t))) ∧ Below w.heap.size w w') := fun w => part12 a o t w
  unfold tpv onv
  obtain ⟨c, hc⟩ : ∃ c, c = closeU a o t := ⟨_, rfl⟩
  rw [← hc] at CN ⊢
  clear hc
  go_enter Try.func110, Try.ntmps110
  go_wp2_with fail
  obtain ⟨W, hW⟩ : ∃ W, W = w := ⟨_, rfl⟩
  refine (CN.out _).mono ?_
  rintro e w2 ⟨rfl, hb⟩
  have B := Lib.hid hb
  clear hb
  go_wp2_with fail
  go_ret
  exact ⟨rfl, (chain_alloc (chain_alloc (Below.refl _ w) _) _).trans (B.out.mono (by simp; omega))⟩

/-- A row of openings that is being filled. -/
def OB (w : World) (g n k : Nat) (os : List On) : Prop :=
  ∃ cs : Array Value, w.heap[g]? = some (.cells cs 156 (0, 0)) ∧ cs.size = n * 2 ∧ (∀ j, j < n * 2 → ∃ v : Int, cs[j]? = some (.int .u64 v)) ∧ ∀ j o, j < k → os[j]? = some o → cs[j * 2]? = some (.int .u64 (uz o.d)) ∧ cs[j * 2 + 1]? = some (.int .u64 (uz o.e))
theorem OB.lt {w : World} {g n k : Nat} {os : List On} (h : OB w g n k os) : g < w.heap.size := by
  obtain ⟨cs, h1, _⟩ := h
  exact (Array.getElem?_eq_some_iff.1 h1).1
theorem OB.start (w : World) (n : Nat) (os : List On) : OB (w.alloc (.cells (madeCells #[.int .u64 0, .int .u64 0] (n * 2)) 156)) w.heap.size n 0 os := by
  refine ⟨_, heap_alloc_new w _, size_madeCells _ _, fun j hj => ⟨0, ?_⟩, fun j _ hj => absurd hj (by omega)⟩
  have h3 : j % 2 = 0 ∨ j % 2 = 1 := by omega
  rcases h3 with h3 | h3 <;> simp [madeCells, hj, h3]
theorem OB.below {w w' : World} {g n k : Nat} {os : List On} (h : OB w g n k os) (hb : Below w.heap.size w w') : OB w' g n k os := by
  have hl := h.lt
  obtain ⟨cs, h1, h2⟩ := h
  exact ⟨cs, (hb.block g hl).trans h1, h2⟩
theorem OB.facts {w : World} {g n k : Nat} {os : List On} (h : OB w g n k os) (hk : k < n) : (∃ v, w.cell? ⟨g, k * 2, none⟩ = some (.int .u64 v)) ∧ (∃ v, w.cell? ⟨g, k * 2 + 1, none⟩ = some (.int .u64 v)) ∧ w.frozen? ⟨g, k * 2, none⟩ = false ∧ w.frozen? ⟨g, k * 2 + 1, none⟩ = false := by
  obtain ⟨cs, h1, h2, h3, _⟩ := h
  exact ⟨by rw [Lib.cell_of_heap h1]; exact h3 _ (by omega), by rw [Lib.cell_of_heap h1]; exact h3 _ (by omega), Lib.frozen_of_heap h1 _, Lib.frozen_of_heap h1 _⟩
theorem OB.step {w : World} {g n k : Nat} {os : List On} {o : On} (h : OB w g n k os) (hk : k < n) (ho : os[k]? = some o) :
    OB ((w.setCell ⟨g, k * 2, none⟩ (.int .u64 (uz o.d))).setCell ⟨g, k * 2 + 1, none⟩ (.int .u64 (uz o.e))) g n (k + 1) os := by
  obtain ⟨cs, h1, h2, h3, h4⟩ := h
  refine ⟨_, Lib.heap_setCell_same (Lib.heap_setCell_same h1 _) _, by simp [h2], fun j hj => ?_, fun j y hj hy => ?_⟩
  · obtain ⟨v, hv⟩ := h3 j hj
    by_cases e1 : j = k * 2 + 1
    · subst e1; exact ⟨_, Array.getElem?_setIfInBounds_self_of_lt (by simp; omega)⟩
    · rw [Array.getElem?_setIfInBounds_ne (Ne.symm e1)]
      by_cases e0 : j = k * 2
      · subst e0; exact ⟨_, Array.getElem?_setIfInBounds_self_of_lt (by omega)⟩
      · rw [Array.getElem?_setIfInBounds_ne (Ne.symm e0)]; exact ⟨v, hv⟩
  · by_cases e : j = k
    · subst e
      rw [ho] at hy
      obtain rfl := Option.some.inj hy
      refine ⟨?_, ?_⟩
      · rw [Array.getElem?_setIfInBounds_ne (by omega), Array.getElem?_setIfInBounds_self_of_lt (by omega)]
      · rw [Array.getElem?_setIfInBounds_self_of_lt (by simp; omega)]
    · obtain ⟨q0, q1⟩ := h4 j y (by omega) hy
      refine ⟨?_, ?_⟩ <;> rw [Array.getElem?_setIfInBounds_ne (by omega), Array.getElem?_setIfInBounds_ne (by omega)] <;> assumption
theorem OB.done {w : World} {g n : Nat} {os : List On} (h : OB w g n n os) (hn : os.length = n) : Rg oncells w (some ⟨g, 0, none⟩) os := fun _ => by
  have hl := h.lt
  obtain ⟨cs, h1, h2, h3, h4⟩ := h
  refine ⟨g, 0, rfl, hl, fun j u hu => ?_⟩
  rw [Nat.zero_add, Lib.cell_of_heap h1]
  have hj : j < os.length * 2 := by
    have := (List.getElem?_eq_some_iff.1 hu).1
    rwa [flat_len oncells_len] at this
  obtain ⟨t, ht⟩ : ∃ t, os[j / 2]? = some t := ⟨_, List.getElem?_eq_getElem (by omega)⟩
  have := flat_get oncells_len os (j / 2) (j % 2) _ ht (by omega)
  rw [show j / 2 * 2 + j % 2 = j by omega, hu] at this
  obtain ⟨q0, q1⟩ := h4 (j / 2) t (by omega) ht
  have h3 : j % 2 = 0 ∨ j % 2 = 1 := by omega
  rcases h3 with e | e
  · rw [e] at this; rw [show j = j / 2 * 2 by omega]; rw [this]; exact q0
  · rw [e] at this; rw [show j = j / 2 * 2 + 1 by omega]; rw [this]; exact q1

end Go.Proofs.Ytklgjhldebdegaa
