/-
  TermsSteps: from a place that comes out to the next one of its row, each term's place goes on by the step, with the same weights.
-/
import Derived.Test.YtnnebdpmmkjfnaaLCount
import Derived.Test.YtnnebdpmmkjfnaaROf
namespace Go.Proofs.Ytnnebdpmmkjfnaa
open Go.RowKit

theorem next_of {s : Sh} {p : Int} (hp : hasB s.c s.h s.x p = true) (hx : colI s.c s.h s.x p + 1 < s.x) :
    hasB s.c s.h s.x (p + 1) = true ∧ chI s.c s.h s.x (p + 1) = chI s.c s.h s.x p ∧ rowI s.c s.h s.x (p + 1) = rowI s.c s.h s.x p ∧ colI s.c s.h s.x (p + 1) = colI s.c s.h s.x p + 1 := by
  obtain ⟨e1, e2, e3⟩ := of_yes hp
  obtain ⟨hi, he⟩ := of_at hp
  obtain ⟨r, k0, k1, y0, y1, x0, x1⟩ := insideB_out hi
  rw [← e1, ← e2, ← e3] at he
  rw [← e1] at k0 k1
  rw [← e2] at y0 y1
  rw [← e3] at x0 x1
  have hi2 : insideB s.c s.h s.x (chI s.c s.h s.x p) (rowI s.c s.h s.x p) (colI s.c s.h s.x p + 1) = true := insideB_yes r ⟨k0, k1, y0, y1, by omega, hx⟩
  have q := at_of hi2
  rw [show (chI s.c s.h s.x p * s.h + rowI s.c s.h s.x p) * s.x + (colI s.c s.h s.x p + 1) = p + 1 by omega] at q
  obtain ⟨f1, f2, f3⟩ := of_yes q.1
  exact ⟨q.1, f1.trans q.2.1, f2.trans q.2.2.1, f3.trans q.2.2.2⟩
theorem fm_congr {α β : Type} {f g : α → List β} : ∀ {l : List α}, (∀ a ∈ l, f a = g a) → l.flatMap f = l.flatMap g
  | [], _ => rfl
  | a :: l, h => by rw [List.flatMap_cons, List.flatMap_cons, h a (by simp), fm_congr fun b hb => h b (by simp [hb])]
theorem chan_shift {s : Sh} {y x d : Int} {m cs : Nat} (h : ∀ c r q : Nat, c < cs → r < m → q < m → atI s.c s.h s.x c (y + r) (x + d + q) = atI s.c s.h s.x c (y + r) (x + q) + d) :
    chanL s y (x + d) m cs = (chanL s y x m cs).map (· + d) := by
  unfold chanL
  rw [List.map_flatMap]
  refine fm_congr fun c hc => ?_
  unfold winL winR
  rw [List.map_flatMap]
  refine fm_congr fun r hr => ?_
  unfold rowL
  rw [List.map_map]
  refine List.map_congr_left fun q hq => ?_
  exact h c r q (List.mem_range.1 hc) (List.mem_range.1 hr) (List.mem_range.1 hq)
def stepT (d : Int) (t : Tm) : Tm := ⟨t.x + d, t.w⟩
theorem seq_map (d : Int) : ∀ (xs : List Int) (b : Int), seqT b (xs.map (· + d)) = (seqT b xs).map (stepT d)
  | [], _ => rfl
  | x :: xs, b => by simp only [List.map_cons, seqT]; rw [seq_map d xs]; rfl
theorem terms_step {K : Kn} (g : Good K) (k : K.l.k = 1) {p : Int} (hp : hasK K p = true) (hx : colI K.u.c K.u.h K.u.x p + 1 < K.u.x) : hasK K (p + 1) = true ∧ termsK K (p + 1) = (termsK K p).map (stepT K.l.t) := by
  obtain ⟨n1, n2, n3, n4⟩ := next_of (s := K.u) hp hx
  obtain ⟨r1, _⟩ := right_bd g.2.1
  obtain ⟨o1, o2, s1, s2, s3, t1, t2, hu⟩ := g.conv k
  refine ⟨n1, ?_⟩
  unfold termsK
  rw [if_pos k, if_pos k, n2, n3, n4, ← seq_map]
  congr 1
  rw [Int.add_mul, Int.one_mul]
  refine chan_shift fun c r q hc hr hq => ?_
  have h1 := conv_in g k hp (ci := c) (r := r) (q := q) (by omega) (by omega) (by omega)
  have h2 := conv_in g k (show hasK K (p + 1) = true from n1) (ci := c) (r := r) (q := q) (by omega) (by omega) (by omega)
  rw [n3, n4, Int.add_mul, Int.one_mul] at h2
  rw [atI_yes h1, atI_yes h2]
  omega

set_option maxHeartbeats 4000000 in
set_option maxRecDepth 100000 in
theorem law_steps (c h x : Int) (A : Option Addr) (cA n : Nat) (ls : List Ly) (a : Int) (b : Int) (w : World) (hx : Rl w A ls) (ln : n = ls.length) (ba : 0 ≤ a ∧ a ≤ 255) (bb : 0 ≤ b ∧ b ≤ 255) :
    Calls Try.prog 12 #[.agg #[.int .i64 c, .int .i64 h, .int .i64 x, .slice A n cA], .int .u8 a, .int .u8 b] w fun e w' => e = .returned (.bool true) ∧ Below w.heap.size w w' := by
  have HX := Lib.hid hx; have LX := Lib.hid ln
  clear hx ln
  obtain ⟨ba0, ba1⟩ := ba
  obtain ⟨bb0, bb1⟩ := bb
  obtain ⟨kk, hkk⟩ : ∃ kk : Nat, a % 8 = kk := ⟨(a % 8).toNat, by omega⟩
  go_enter Try.func12, Try.ntmps12
  go_wp2_with fail
  refine (head6_any _).mono ?_
  rintro e w1 ⟨rfl, hb⟩
  have B1 := Lib.hid (chain ((Below.refl w.heap.size w).alloc (Nat.le_refl _) _) hb)
  have hN := (NB.new w c h x (.slice A n cA)).below hb
  have N1 := Lib.hid hN
  obtain ⟨c0, c1, c2, c3⟩ := hN.cells
  clear hb hN
  by_cases hg : 60 < n
  · have d : decide (60 < (n : Int)) = true := by simp; omega
    go_wp2_with fail
    refine (great_any c h x A cA n _ true d).mono ?_
    rintro e w2 ⟨rfl, hb⟩
    have B2 := Lib.hid (chain B1.out hb)
    clear hb
    go_wp2_with fail
    go_ret
    exact ⟨rfl, B2.out⟩
  have d : decide (60 < (n : Int)) = false := by simp; omega
  have hn : n ≤ 60 := by omega
  have hn1 : n ≤ 1000 := by omega
  go_wp2_with fail
  refine (great_any c h x A cA n _ false d).mono ?_
  rintro e w2 ⟨rfl, hb⟩
  have B2 := Lib.hid (chain B1.out hb)
  have N2 := Lib.hid (N1.out.below hb)
  clear hb B1 N1 c0 c1 c2 c3 hg d
  obtain ⟨c0, c1, c2, c3⟩ := N2.out.cells
  obtain ⟨K, hK⟩ : ∃ K, K = atN ⟨c, h, x, ls⟩ kk := ⟨_, rfl⟩
  obtain ⟨is, his⟩ : ∃ is, is = isB ⟨c, h, x, ls⟩ kk := ⟨_, rfl⟩
  have HK := Lib.hid hK; have HIS := Lib.hid his
  have KZ : Hid (∀ w, Rl w A ls → Calls Try.prog 36 #[.agg #[.int .i64 c, .int .i64 h, .int .i64 x, .slice A n cA], .int .i64 (kk : Int)] w fun e w' => e = .returned (.tuple #[.int .i64 K.i.n, .int .i64 K.u.n, .bool is]) ∧ Below w.heap.size w w') := fun w hx => by
    rw [hK, his]; exact sizes_any c h x A cA n ls kk w hx LX.out hn1
  have KT : Hid (∀ w p ts, termsN ⟨c, h, x, ls⟩ kk p = ts → Rl w A ls → Calls Try.prog 31 #[.agg #[.int .i64 c, .int .i64 h, .int .i64 x, .slice A n cA], .int .i64 (kk : Int), .int .i64 p] w (RowTo tcells ts w)) := fun w p ts hts hx =>
    terms_any c h x A cA n ls kk p ts hts w hx LX.out hn1
  have KS : Hid (∀ w, Rl w A ls → Calls Try.prog 16 #[.agg #[.int .i64 c, .int .i64 h, .int .i64 x, .slice A n cA]] w (ShapesTo ⟨c, h, x, ls⟩ w)) := fun w hx => rshapes_any c h x A cA n ls w hx LX.out hn1
  clear hK his
  go_wp2_with fail
  refine (KZ.out _ (HX.out.below B2.out)).mono ?_
  rintro e w3 ⟨rfl, hb⟩
  have B3 := Lib.hid (chain B2.out hb)
  have N3 := Lib.hid (N2.out.below hb)
  clear hb B2 N2 c0 c1 c2 c3
  obtain ⟨c0, c1, c2, c3⟩ := N3.out.cells
  by_cases hisf : is = false
  · subst hisf
    go_wp2_with fail
    go_ret
    exact ⟨rfl, B3.out⟩
  have hist : is = true := by cases is <;> simp_all
  subst hist
  have GD : Hid (Good K) := by rw [HK.out]; exact good_at HIS.out.symm
  have ISO := Lib.hid (isB_out HIS.out.symm)
  have kkn : kk < n := by have h3 : (kk : Int) < (ls.length : Int) := ISO.out.2.2; have := LX.out; omega
  clear hisf
  have hun := size_bd K.u
  have hun1 := size_pos GD.out.ur
  obtain ⟨un, hu⟩ : ∃ un : Int, K.u.n = un := ⟨_, rfl⟩
  rw [hu] at hun hun1 ⊢
  have HU := Lib.hid hu
  obtain ⟨b1, o1, rfl, l1, qL⟩ := HX.out (by rw [← LX.out]; omega)
  have hkl : kk < ls.length := by rw [← LX.out]; exact kkn
  have hlK : ls.getD kk Ly.z = K.l := by rw [HK.out, at_some ISO.out.1 (get_ly hkl)]
  have hq := (qL kk hkl).below B3.out l1
  rw [hlK] at hq
  obtain ⟨p0, p1, p2, p3⟩ := hq
  have l1r : b1 < w3.heap.size := Nat.lt_of_lt_of_le l1 B3.out.size
  have ka : (0 : Int) ≤ (kk : Int) := by omega
  have kb : (kk : Int) < (n : Int) := by omega
  clear hu qL hkl hlK
  by_cases k1 : ¬ K.l.k = 1
  · have d1 : (K.l.k != 1) = true := by simpa using k1
    clear k1
    go_wp2_with fail
    go_ret
    exact ⟨rfl, B3.out⟩
  have k1 : K.l.k = 1 := by omega
  have d1 : (K.l.k != 1) = false := by rw [k1]; rfl
  have HK1 := Lib.hid k1
  clear k1
  go_wp2_with fail
  clear p0 p1 p2 p3
  refine (KS.out _ (HX.out.below B3.out)).mono ?_
  rintro e w4 ⟨A1, k1, n1, rfl, hn1s, hR, hb, hd1, hd2⟩
  rw [ISO.out.1]
  have B4 := Lib.hid (chain B3.out hb)
  have N4 := Lib.hid (N3.out.below hb)
  rw [shN_ok ISO.out.1] at hR hn1s
  rw [sh_len, ← LX.out] at hn1s
  obtain ⟨bS, oS, rfl, hlS, hcS⟩ := hR (by rw [sh_len]; omega)
  have hkl : kk < ls.length := by rw [← LX.out]; exact kkn
  have hlk := get_ly hkl
  have g2 := sh_get ls ⟨c, h, x⟩ (kk + 1) (by omega)
  rw [show endS ⟨c, h, x⟩ (ls.take (kk + 1)) = K.u by rw [HK.out, at_some ISO.out.1 hlk, end_next hlk]] at g2
  obtain ⟨m, hm⟩ : ∃ m, m = kk + 1 := ⟨_, rfl⟩
  obtain ⟨a0, a1, a2⟩ := sh_at hcS g2
  rw [← hm] at a0 a1 a2
  have HA0 := Lib.hid a0; have HA1 := Lib.hid a1; have HA2 := Lib.hid a2
  have ma : (0 : Int) ≤ (m : Int) := by omega
  have mb : (m : Int) < (n1 : Int) := by omega
  have mb' : m < n1 := by omega
  have v1 : IntKind.i64.wrap ((kk : Int) + 1) = (m : Int) := next_i64 hm (Nat.lt_succ_self kk) (by omega)
  have v2 : wrap64 ((kk : Int) + 1) = (m : Int) := next_wrap hm (Nat.lt_succ_self kk) (by omega)
  have HV1 := Lib.hid v1; have HV2 := Lib.hid v2
  clear hb hd1 hd2 hR hn1s hcS g2 hlk hkl hm v1 v2 a0 a1 a2 B3 N3 c0 c1 c2 c3
  obtain ⟨c0, c1, c2, c3⟩ := N4.out.cells
  -- the place
  obtain ⟨p, hp⟩ : ∃ p : Int, b % un = p := ⟨_, rfl⟩
  have pl : 0 ≤ p := by rw [← hp]; exact Int.emod_nonneg b (by omega)
  have pu : p < un := by rw [← hp]; exact Int.emod_lt_of_pos _ (by omega)
  have pne : ¬ un = 0 := by omega
  have HH : Hid (hasK K p = true) := has_yes pl (by rw [HU.out]; exact pu)
  obtain ⟨col, hcol⟩ : ∃ col, colI K.u.c K.u.h K.u.x p = col := ⟨_, rfl⟩
  have hob := of_bd (s := K.u) HH.out
  have hur := right_bd GD.out.ur
  have co0 : 0 ≤ col := by rw [← hcol]; exact hob.2.2.1
  have co1 : col < K.u.x := by rw [← hcol]; exact hob.2.2.2
  have ux : K.u.x ≤ 12 := by omega
  have KO : Hid (∀ w, Calls Try.prog 37 #[.agg #[.int .i64 K.u.c, .int .i64 K.u.h, .int .i64 K.u.x], .int .i64 p] w fun e w' => ∃ u v z, e = .returned (.tuple #[.int .i64 u, .int .i64 v, .int .i64 col, .bool z]) ∧ Below w.heap.size w w') := fun w => by
    refine (rof_any K.u.c K.u.h K.u.x p w).mono ?_
    rintro e w' ⟨he, hb⟩
    rw [hcol] at he
    exact ⟨_, _, _, he, hb⟩
  have HCOL := Lib.hid hcol
  have a0 := HA0.out
  have a1 := HA1.out
  have a2 := HA2.out
  have v1 := HV1.out
  have v2 := HV2.out
  clear hcol hob hur
  go_wp2_with fail
  refine (KO.out _).mono ?_
  rintro e w5 ⟨u5, v5, z5, rfl, hb⟩
  have B5 := Lib.hid (chain B4.out hb)
  have N5 := Lib.hid (N4.out.below hb)
  have e2 := (hb.cell (p := ⟨bS, oS + m * 3 + 2, none⟩) hlS).trans a2
  clear hb a0 a1 a2 c0 c1 c2 c3
  obtain ⟨c0, c1, c2, c3⟩ := N5.out.cells
  by_cases cx : K.u.x ≤ col + 1
  · have d2 : decide (K.u.x ≤ col + 1) = true := decide_eq_true cx
    go_wp2_with fail
    go_ret
    exact ⟨rfl, B5.out⟩
  have d2 : decide (K.u.x ≤ col + 1) = false := decide_eq_false cx
  obtain ⟨st1, st2⟩ := terms_step GD.out HK1.out HH.out (by rw [HCOL.out]; omega)
  obtain ⟨ts, hts⟩ : ∃ ts, termsK K p = ts := ⟨_, rfl⟩
  rw [hts] at st2
  have T1 : Hid (termsN ⟨c, h, x, ls⟩ kk p = ts) := by
    have := HH.out; rw [HK.out] at this hts; rw [← hts]; exact termsN_is this
  have T2 : Hid (termsN ⟨c, h, x, ls⟩ kk (p + 1) = ts.map (stepT K.l.t)) := by
    have := st1; rw [HK.out] at this st2 ⊢; rw [← st2]; exact termsN_is this
  have tln : ts.length ≤ 1152 := by have h1 := terms_len GD.out p; have h2 := per_bd GD.out; rw [hts] at h1; omega
  have TR : Hid (∀ t ∈ ts, 0 ≤ t.x ∧ t.x < 128) := fun t ht => by
    rw [← hts] at ht
    have h1 := terms_rng GD.out HH.out t ht
    have h2 := size_bd K.i
    omega
  have st0 : 0 ≤ K.l.t ∧ K.l.t ≤ 12 := by obtain ⟨_, _, _, _, _, t1, t2, _⟩ := GD.out.conv HK1.out; omega
  obtain ⟨st, hst⟩ : ∃ st, K.l.t = st := ⟨_, rfl⟩
  rw [hst] at T2 st0
  have HSTQ := Lib.hid hst
  obtain ⟨sta, stb⟩ := st0
  have pb1 : p ≤ 128 := by omega
  clear st1 st2 hts hst
  go_wp2_with fail
  refine (KT.out _ p ts T1.out (HX.out.below B5.out)).mono ?_
  rintro e w6 ⟨A6, k6, n6, rfl, hn6, hR6, hb, hd1, hd2⟩
  have B6 := Lib.hid (chain B5.out hb)
  have N6 := Lib.hid (N5.out.below hb)
  have R6 := Lib.hid hR6
  have L6 := Lib.hid hn6
  clear hb hd1 hd2 hR6 hn6 c0 c1 c2 c3 e2
  obtain ⟨c0, c1, c2, c3⟩ := N6.out.cells
  go_wp2_with fail
  refine (KT.out _ (p + 1) _ T2.out (HX.out.below B6.out)).mono ?_
  rintro e w7 ⟨A7, k7, n7, rfl, hn7, hR7, hb, hd1, hd2⟩
  rw [List.length_map, ← L6.out] at hn7
  have hn7' := hn7.symm
  subst hn7'
  have B7 := Lib.hid (chain B6.out hb)
  have N7 := Lib.hid (N6.out.below hb)
  have R7 := Lib.hid hR7
  have Q7 := Lib.hid (R6.out.below hb)
  have n6b : n6 ≤ 1152 := by rw [L6.out]; exact tln
  clear hb hd1 hd2 hR7 c0 c1 c2 c3 tln
  go_wp2_with fail
  have hqL := (HX.out (by rw [← LX.out]; omega))
  obtain ⟨b1', o1', hbo, l1', qL⟩ := hqL
  injection hbo with hbo
  injection hbo with z1 z2
  subst z1 z2
  have hkl : kk < ls.length := by rw [← LX.out]; exact kkn
  have hlK : ls.getD kk Ly.z = K.l := by rw [HK.out, at_some ISO.out.1 (get_ly hkl)]
  have hq7 := (qL kk hkl).below B7.out l1'
  rw [hlK] at hq7
  have S7 : Hid (w7.cell? ⟨b1, o1 + kk * 4 + 3, none⟩ = some (.int .i64 K.l.t)) := hq7.2.2.2
  rw [HSTQ.out] at S7
  have l17 : b1 < w7.heap.size := Nat.lt_of_lt_of_le l1' B7.out.size
  clear hq7 hlK qL hkl
  go_loopg [21] n6 (fun g s21 wx => ∃ j : Nat, j ≤ n6 ∧ Hid (g = n6 - j) ∧ s21 = .int .i64 (j : Int) ∧ Hid (Below w7.heap.size w7 wx))
  case atStart => exact ⟨0, by omega, by show _ = _; omega, rfl, Below.refl _ _⟩
  case round =>
    obtain ⟨j, hj, HG, rfl, BJ⟩ := hrel
    have N8 := Lib.hid (N7.out.below BJ.out)
    obtain ⟨c0, c1, c2, c3⟩ := N8.out.cells
    by_cases jn : j < n6
    · have ji : (j : Int) < (n6 : Int) := by omega
      have ja : (0 : Int) ≤ (j : Int) := by omega
      obtain ⟨b2, o2, rfl, l2, q2⟩ := Q7.out (by rw [← L6.out]; omega)
      obtain ⟨b3, o3, rfl, l3, q3⟩ := R7.out (by rw [List.length_map, ← L6.out]; omega)
      obtain ⟨t, ht⟩ : ∃ t, ts[j]? = some t := ⟨_, List.getElem?_eq_getElem (by rw [← L6.out]; exact jn)⟩
      have ht2 : (ts.map (stepT st))[j]? = some (stepT st t) := by rw [List.getElem?_map, ht]; rfl
      obtain ⟨y0, y1⟩ := t_cells q2 ht
      obtain ⟨y2, y3⟩ := t_cells q3 ht2
      have z0 := (BJ.out.cell (p := ⟨b2, o2 + j * 2, none⟩) l2).trans y0
      have z1 := (BJ.out.cell (p := ⟨b2, o2 + j * 2 + 1, none⟩) l2).trans y1
      have z2 : _ = some (Value.int .i64 (t.x + st)) := (BJ.out.cell (p := ⟨b3, o3 + j * 2, none⟩) l3).trans y2
      have z3 : _ = some (Value.int .i64 t.w) := (BJ.out.cell (p := ⟨b3, o3 + j * 2 + 1, none⟩) l3).trans y3
      have z4 := (BJ.out.cell (p := ⟨b1, o1 + kk * 4 + 3, none⟩) l17).trans S7.out
      obtain ⟨tx0, tx1⟩ := TR.out t (List.mem_of_getElem? ht)
      have V4 : IntKind.i64.wrap (t.x + st) = t.x + st := IntWalk.i64_in _ (by omega)
      clear q2 q3 y0 y1 y2 y3 ht ht2
      go_wp2_with fail
      go_quiet (fail)
      go_wp2_with fail
      go_roundg (n6 - (j + 1))
      case measure => have := HG.out; omega
      case rel => exact ⟨j + 1, by omega, rfl, by go_num, chain_drewN BJ.out _⟩
    · obtain rfl : j = n6 := by omega
      go_wp2_with fail
      go_ret
      exact ⟨rfl, chain B7.out BJ.out⟩

end Go.Proofs.Ytnnebdpmmkjfnaa
