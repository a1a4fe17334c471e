/-
  TermsApart: no two terms of a place have the same place that goes in, nor the same weight; all places of one channel have weights of the same row.
-/
import Derived.Test.YtnnebdpmmkjfnaaLBlocks
import Derived.Test.YtnnebdpmmkjfnaaLTWeights
import Derived.Test.YtnnebdpmmkjfnaaROf
namespace Go.Proofs.Ytnnebdpmmkjfnaa
open Go.RowKit

theorem drew_of {n : Nat} {a w : World} (_h : Below n a w) : Below w.heap.size w w.drew := below_drew w
theorem two_count {xs : List Int} {i j : Nat} {v : Int} (hij : i < j) (hi : xs[i]? = some v) (hj : xs[j]? = some v) : 2 ≤ xs.count v := by
  have hjl : j < xs.length := (List.getElem?_eq_some_iff.1 hj).1
  rw [← List.take_append_drop j xs, List.count_append]
  have h1 : v ∈ xs.take j := by
    refine List.mem_of_getElem? (i := i) ?_
    rw [List.getElem?_take_of_lt hij]; exact hi
  have h2 : v ∈ xs.drop j := by
    refine List.mem_of_getElem? (i := 0) ?_
    rw [List.getElem?_drop]; simpa using hj
  have a := List.count_pos_iff.2 h1
  have b := List.count_pos_iff.2 h2
  omega
theorem chan_count {s : Sh} {y x v : Int} {m : Nat} (hv : hasB s.c s.h s.x v = true) : ∀ cs : Nat, (∀ c i q : Nat, c < cs → i < m → q < m → insideB s.c s.h s.x c (y + i) (x + q) = true) →
    (chanL s y x m cs).count v ≤ (if chI s.c s.h s.x v < cs then 1 else 0)
  | 0, _ => by
    have := (of_bd (s := s) hv).1.1
    rw [if_neg (by omega)]; simp [chanL]
  | cs + 1, h => by
    have h0 := chan_count hv cs fun c i q hc hi hq => h c i q (by omega) hi hq
    rw [chan_next, List.count_append, winL, win_count hv m fun i q hi hq => h cs i q (by omega) hi hq]
    split at h0 <;> split <;> split <;> omega
theorem terms_two {K : Kn} (g : Good K) {p : Int} {i j : Nat} {u : Tm} (hij : i < j) (hj : (termsK K p)[j]? = some u) : K.l.k = 1 ∨ K.l.k = 4 := by
  rcases g.kind with k | k | k | k
  · exact .inl k
  · exfalso
    unfold termsK at hj
    rw [if_neg (by omega), if_pos k] at hj
    have := (List.getElem?_eq_some_iff.1 hj).1
    simp at this
    omega
  · exfalso
    unfold termsK at hj
    rw [if_neg (by omega), if_neg (by omega), if_neg (by omega)] at hj
    simp at hj
  · exact .inr k
theorem terms_apart {K : Kn} (g : Good K) {p : Int} (hp : hasK K p = true) {i j : Nat} {t u : Tm} (hij : i < j) (hi : (termsK K p)[i]? = some t) (hj : (termsK K p)[j]? = some u) : u.x ≠ t.x ∧ u.w ≠ t.w := by
  have hk := terms_two g hij hj
  obtain ⟨r1, _⟩ := right_bd g.2.1
  refine ⟨fun e => ?_, fun e => ?_⟩
  · unfold termsK at hi hj
    rcases hk with k | k
    · obtain ⟨o1, o2, s1, s2, s3, t1, t2, hu⟩ := g.conv k
      rw [if_pos k] at hi hj
      have li := (List.getElem?_eq_some_iff.1 hi).1
      have lj := (List.getElem?_eq_some_iff.1 hj).1
      rw [seq_len] at li lj
      have ei := List.getElem?_eq_getElem li
      have ej := List.getElem?_eq_getElem lj
      rw [seq_get _ _ i _ ei] at hi
      rw [seq_get _ _ j _ ej] at hj
      have xi := congrArg Tm.x (Option.some.inj hi)
      have xj := congrArg Tm.x (Option.some.inj hj)
      have ei := ei.trans (congrArg some xi)
      have ej := ej.trans (congrArg some (xj.trans e))
      have h2 := two_count hij ei ej
      obtain ⟨ci, r, q, hc, hr, hq, ev⟩ := chan_mem.1 (List.mem_of_getElem? ei)
      have hin := conv_in g k hp (ci := ci) (r := r) (q := q) (by omega) (by omega) (by omega)
      have hv : hasB K.i.c K.i.h K.i.x t.x = true := by
        obtain ⟨b0, b1⟩ := at_in_bd hin
        rw [← ev] at b0 b1
        exact hasB_yes b0 b1
      have h3 := chan_count (m := K.l.s.toNat) (y := rowI K.u.c K.u.h K.u.x p * K.l.t) (x := colI K.u.c K.u.h K.u.x p * K.l.t) hv K.i.c.toNat fun c i q hc hi hq => conv_in g k hp (ci := c) (r := i) (q := q) (by omega) (by omega) (by omega)
      split at h3 <;> omega
    · rw [if_neg (by omega), if_neg (by omega), if_pos k] at hi hj
      have li := (List.getElem?_eq_some_iff.1 hi).1
      have lj := (List.getElem?_eq_some_iff.1 hj).1
      rw [seq_len, num_len] at li lj
      rw [seq_get _ _ i _ (num_get li)] at hi
      rw [seq_get _ _ j _ (num_get lj)] at hj
      have xi := congrArg Tm.x (Option.some.inj hi)
      have xj := congrArg Tm.x (Option.some.inj hj)
      have xi : (i : Int) = t.x := xi
      have xj : (j : Int) = u.x := xj
      omega
  · rw [terms_w g hk hp hi, terms_w g hk hp hj] at e
    omega
theorem terms_pair {K : Kn} (g : Good K) {p p' : Int} (hp : hasK K p = true) (hp' : hasK K p' = true) {j : Nat} {t u : Tm} (ht : (termsK K p)[j]? = some t) (hu : (termsK K p')[j]? = some u) :
    (chI K.u.c K.u.h K.u.x p = chI K.u.c K.u.h K.u.x p' → t.w = u.w) ∧ (chI K.u.c K.u.h K.u.x p ≠ chI K.u.c K.u.h K.u.x p' → t.w ≠ u.w ∨ t.w < 0) := by
  by_cases hk : K.l.k = 1 ∨ K.l.k = 4
  · rw [terms_w g hk hp ht, terms_w g hk hp' hu]
    refine ⟨fun e => by rw [e], fun e => .inl fun h => e ?_⟩
    have hpos : 0 < perK K := by
      have h1 := terms_len g p
      have h2 := (List.getElem?_eq_some_iff.1 ht).1
      omega
    exact Int.eq_of_mul_eq_mul_right (show perK K ≠ 0 by omega) (by omega)
  · unfold termsK at ht hu
    rw [if_neg (by omega)] at ht hu
    by_cases k2 : K.l.k = 2
    · rw [if_pos k2] at ht hu
      have e1 : t.w = -1 := by
        have := List.mem_of_getElem? ht
        simp at this
        rw [this]
      have e2 : u.w = -1 := by
        have := List.mem_of_getElem? hu
        simp at this
        rw [this]
      exact ⟨fun _ => by omega, fun _ => .inr (by omega)⟩
    · rw [if_neg k2, if_neg (by omega)] at ht
      simp at ht

set_option maxHeartbeats 4000000 in
set_option maxRecDepth 100000 in
theorem law_apart (c h x : Int) (A : Option Addr) (cA n : Nat) (ls : List Ly) (a : Int) (b d : Int) (w : World) (hx : Rl w A ls) (ln : n = ls.length) (ba : 0 ≤ a ∧ a ≤ 255) (bb : 0 ≤ b ∧ b ≤ 255) (bd : 0 ≤ d ∧ d ≤ 255) :
    Calls Try.prog 10 #[.agg #[.int .i64 c, .int .i64 h, .int .i64 x, .slice A n cA], .int .u8 a, .int .u8 b, .int .u8 d] w fun e w' => e = .returned (.bool true) ∧ Below w.heap.size w w' := by
  have HX := Lib.hid hx; have LX := Lib.hid ln
  clear hx ln
  obtain ⟨ba0, ba1⟩ := ba
  obtain ⟨bb0, bb1⟩ := bb
  obtain ⟨bd0, bd1⟩ := bd
  obtain ⟨kk, hkk⟩ : ∃ kk : Nat, a % 8 = kk := ⟨(a % 8).toNat, by omega⟩
  go_enter Try.func10, Try.ntmps10
  go_wp2_with fail
  refine (head6_any _).mono ?_
  rintro e w1 ⟨rfl, hb⟩
  have B1 := Lib.hid (chain ((Below.refl w.heap.size w).alloc (Nat.le_refl _) _) hb)
  have hN := (NB.new w c h x (.slice A n cA)).below hb
  have N1 := Lib.hid hN
  obtain ⟨c0, c1, c2, c3⟩ := hN.cells
  clear hb hN
  by_cases hg : 60 < n
  · have d : decide (60 < (n : Int)) = true := by simp; omega
    go_wp2_with fail
    refine (great_any c h x A cA n _ true d).mono ?_
    rintro e w2 ⟨rfl, hb⟩
    have B2 := Lib.hid (chain B1.out hb)
    clear hb
    go_wp2_with fail
    go_ret
    exact ⟨rfl, B2.out⟩
  have d : decide (60 < (n : Int)) = false := by simp; omega
  have hn : n ≤ 60 := by omega
  have hn1 : n ≤ 1000 := by omega
  go_wp2_with fail
  refine (great_any c h x A cA n _ false d).mono ?_
  rintro e w2 ⟨rfl, hb⟩
  have B2 := Lib.hid (chain B1.out hb)
  have N2 := Lib.hid (N1.out.below hb)
  clear hb B1 N1 c0 c1 c2 c3 hg d
  obtain ⟨c0, c1, c2, c3⟩ := N2.out.cells
  obtain ⟨K, hK⟩ : ∃ K, K = atN ⟨c, h, x, ls⟩ kk := ⟨_, rfl⟩
  obtain ⟨is, his⟩ : ∃ is, is = isB ⟨c, h, x, ls⟩ kk := ⟨_, rfl⟩
  have HK := Lib.hid hK; have HIS := Lib.hid his
  have KZ : Hid (∀ w, Rl w A ls → Calls Try.prog 36 #[.agg #[.int .i64 c, .int .i64 h, .int .i64 x, .slice A n cA], .int .i64 (kk : Int)] w fun e w' => e = .returned (.tuple #[.int .i64 K.i.n, .int .i64 K.u.n, .bool is]) ∧ Below w.heap.size w w') := fun w hx => by
    rw [hK, his]; exact sizes_any c h x A cA n ls kk w hx LX.out hn1
  have KT : Hid (∀ w p ts, termsN ⟨c, h, x, ls⟩ kk p = ts → Rl w A ls → Calls Try.prog 31 #[.agg #[.int .i64 c, .int .i64 h, .int .i64 x, .slice A n cA], .int .i64 (kk : Int), .int .i64 p] w (RowTo tcells ts w)) := fun w p ts hts hx =>
    terms_any c h x A cA n ls kk p ts hts w hx LX.out hn1
  have KS : Hid (∀ w, Rl w A ls → Calls Try.prog 16 #[.agg #[.int .i64 c, .int .i64 h, .int .i64 x, .slice A n cA]] w (ShapesTo ⟨c, h, x, ls⟩ w)) := fun w hx => rshapes_any c h x A cA n ls w hx LX.out hn1
  clear hK his
  go_wp2_with fail
  refine (KZ.out _ (HX.out.below B2.out)).mono ?_
  rintro e w3 ⟨rfl, hb⟩
  have B3 := Lib.hid (chain B2.out hb)
  have N3 := Lib.hid (N2.out.below hb)
  clear hb B2 N2 c0 c1 c2 c3
  obtain ⟨c0, c1, c2, c3⟩ := N3.out.cells
  by_cases hisf : is = false
  · subst hisf
    go_wp2_with fail
    go_ret
    exact ⟨rfl, B3.out⟩
  have hist : is = true := by cases is <;> simp_all
  subst hist
  have GD : Hid (Good K) := by rw [HK.out]; exact good_at HIS.out.symm
  have ISO := Lib.hid (isB_out HIS.out.symm)
  have kkn : kk < n := by have h3 : (kk : Int) < (ls.length : Int) := ISO.out.2.2; have := LX.out; omega
  clear hisf
  have hun := size_bd K.u
  have hun1 := size_pos GD.out.ur
  obtain ⟨un, hu⟩ : ∃ un : Int, K.u.n = un := ⟨_, rfl⟩
  rw [hu] at hun hun1 ⊢
  have HU := Lib.hid hu
  have une : ¬ un = 0 := by omega
  obtain ⟨p, hp⟩ : ∃ p : Int, b % un = p := ⟨_, rfl⟩
  obtain ⟨r, hr⟩ : ∃ r : Int, d % un = r := ⟨_, rfl⟩
  have p0 : 0 ≤ p := by rw [← hp]; exact Int.emod_nonneg b (by omega)
  have p1 : p < un := by rw [← hp]; exact Int.emod_lt_of_pos _ (by omega)
  have r0 : 0 ≤ r := by rw [← hr]; exact Int.emod_nonneg d (by omega)
  have r1 : r < un := by rw [← hr]; exact Int.emod_lt_of_pos _ (by omega)
  have HHp : Hid (hasK K p = true) := has_yes p0 (by rw [HU.out]; exact p1)
  have HHr : Hid (hasK K r = true) := has_yes r0 (by rw [HU.out]; exact r1)
  have HPp := Lib.hid hp; have HPr := Lib.hid hr
  obtain ⟨ts, hts⟩ : ∃ ts, termsK K p = ts := ⟨_, rfl⟩
  obtain ⟨us, hus⟩ : ∃ us, termsK K r = us := ⟨_, rfl⟩
  have HTp : Hid (termsN ⟨c, h, x, ls⟩ kk p = ts) := by have := HHp.out; rw [HK.out] at this hts; rw [← hts]; exact termsN_is this
  have HTr : Hid (termsN ⟨c, h, x, ls⟩ kk r = us) := by have := HHr.out; rw [HK.out] at this hus; rw [← hus]; exact termsN_is this
  have LE : Hid (us.length = ts.length) := by
    show _ = _
    have h1 := terms_len GD.out p
    have h2 := terms_len GD.out r
    rw [hts] at h1
    rw [hus] at h2
    omega
  have tln : ts.length ≤ 1152 := by have h1 := terms_len GD.out p; have h2 := per_bd GD.out; rw [hts] at h1; omega
  have AP : Hid (∀ (i j : Nat) (t u : Tm), i < j → ts[i]? = some t → ts[j]? = some u → u.x ≠ t.x ∧ u.w ≠ t.w) := fun i j t u hij hi hj => by
    rw [← hts] at hi hj; exact terms_apart GD.out HHp.out hij hi hj
  obtain ⟨ch, hch⟩ : ∃ ch, chI K.u.c K.u.h K.u.x p = ch := ⟨_, rfl⟩
  obtain ⟨dh, hdh⟩ : ∃ dh, chI K.u.c K.u.h K.u.x r = dh := ⟨_, rfl⟩
  have PA : Hid (∀ (j : Nat) (t u : Tm), ts[j]? = some t → us[j]? = some u → (ch = dh → t.w = u.w) ∧ (ch ≠ dh → t.w ≠ u.w ∨ t.w < 0)) := fun j t u ht hu => by
    rw [← hts] at ht
    rw [← hus] at hu
    rw [← hch, ← hdh]
    exact terms_pair GD.out HHp.out HHr.out ht hu
  have KOp : Hid (∀ w, Calls Try.prog 37 #[.agg #[.int .i64 K.u.c, .int .i64 K.u.h, .int .i64 K.u.x], .int .i64 p] w fun e w' => ∃ u v z, e = .returned (.tuple #[.int .i64 ch, .int .i64 u, .int .i64 v, .bool z]) ∧ Below w.heap.size w w') := fun w => by
    refine (rof_any K.u.c K.u.h K.u.x p w).mono ?_
    rintro e w' ⟨he, hb⟩
    rw [hch] at he
    exact ⟨_, _, _, he, hb⟩
  have KOr : Hid (∀ w, Calls Try.prog 37 #[.agg #[.int .i64 K.u.c, .int .i64 K.u.h, .int .i64 K.u.x], .int .i64 r] w fun e w' => ∃ u v z, e = .returned (.tuple #[.int .i64 dh, .int .i64 u, .int .i64 v, .bool z]) ∧ Below w.heap.size w w') := fun w => by
    refine (rof_any K.u.c K.u.h K.u.x r w).mono ?_
    rintro e w' ⟨he, hb⟩
    rw [hdh] at he
    exact ⟨_, _, _, he, hb⟩
  clear hu hp hr hts hus hch hdh hun
  go_wp2_with fail
  have HD3 : Hid (Below w3.heap.size w3 w3.drew) := below_drew w3
  have tmpa : (IntKind.i64.wrap b).tmod un = p := by rw [IntWalk.i64_in _ (by omega), Int.tmod_eq_emod_of_nonneg (by omega)]; exact HPp.out
  have tmpb : b % un = p := HPp.out
  have tok4 : True := trivial
  go_region_held3 (fun w' => w'.cell? ⟨w.heap.size, 0, none⟩ = some (.int .i64 c) ∧ w'.cell? ⟨w.heap.size, 1, none⟩ = some (.int .i64 h) ∧ w'.cell? ⟨w.heap.size, 2, none⟩ = some (.int .i64 x) ∧ w'.cell? ⟨w.heap.size, 3, none⟩ = some (.slice A n cA))
    (first | exact ⟨q0, q1, q2, q3⟩ | go_keep)
    (first
      | ((have _t := tok4; clear tok4; go_at_call 31; (with_reducible refine (KT.out _ p ts HTp.out (HX.out.below (B3.out.trans (HD3.out.mono B3.out.size)))).mono ?_); rintro e w4 ⟨A4, k4, n4, rfl, hn4, hR4, hb, hd1, hd2⟩
          have L4 := Lib.hid hn4
          have R4 := Lib.hid hR4
          clear hn4 hR4
          have HE4 := Lib.hid (HD3.out.trans (hb.mono HD3.out.size))
          have ND4 := Lib.hid (N3.out.below HE4.out)
          obtain ⟨q0, q1, q2, q3⟩ := ND4.out.cells
          clear hb hd1 hd2))
      | fail)
  have B4 := Lib.hid (chain B3.out HE4.out)
  have N4 := Lib.hid (N3.out.below HE4.out)
  clear q0 q1 q2 q3 tmpa tmpb c0 c1 c2 c3 HD3 HE4 ND4 B3 N3
  have n4b : n4 ≤ 1152 := by rw [L4.out]; exact tln
  go_wp2_with fail
  go_loopg [15, 16] n4 (fun g s15 _ wx => ∃ j : Nat, j ≤ n4 ∧ Hid (g = n4 - j) ∧ s15 = .int .i64 (j : Int) ∧ Hid (Below w4.heap.size w4 wx))
  case atStart => exact ⟨0, by omega, by show _ = _; omega, rfl, Below.refl _ _⟩
  case round =>
    obtain ⟨j, hj, HG, rfl, BJ⟩ := hrel
    by_cases jn : j < n4
    · have ji : (j : Int) < (n4 : Int) := by omega
      have ja : (0 : Int) ≤ (j : Int) := by omega
      go_wp2_with fail
      go_loopg [16] j (fun g s16 wx => ∃ i : Nat, i ≤ j ∧ Hid (g = j - i) ∧ s16 = .int .i64 (i : Int) ∧ Hid (Below w4.heap.size w4 wx))
      case atStart => exact ⟨0, by omega, by show _ = _; omega, rfl, BJ⟩
      case round =>
        obtain ⟨i, hi, HG2, rfl, BI⟩ := hrel
        by_cases ij : i < j
        · have ii : (i : Int) < (j : Int) := by omega
          have ii2 : (i : Int) < (n4 : Int) := by omega
          have ia : (0 : Int) ≤ (i : Int) := by omega
          obtain ⟨b2, o2, rfl, l2, q2⟩ := R4.out (by rw [← L4.out]; omega)
          obtain ⟨t, ht⟩ : ∃ t, ts[i]? = some t := ⟨_, List.getElem?_eq_getElem (by rw [← L4.out]; omega)⟩
          obtain ⟨u, hu⟩ : ∃ u, ts[j]? = some u := ⟨_, List.getElem?_eq_getElem (by rw [← L4.out]; omega)⟩
          obtain ⟨y0, y1⟩ := t_cells q2 ht
          obtain ⟨y2, y3⟩ := t_cells q2 hu
          have z0 := (BI.out.cell (p := ⟨b2, o2 + i * 2, none⟩) l2).trans y0
          have z1 := (BI.out.cell (p := ⟨b2, o2 + i * 2 + 1, none⟩) l2).trans y1
          have z2 := (BI.out.cell (p := ⟨b2, o2 + j * 2, none⟩) l2).trans y2
          have z3 := (BI.out.cell (p := ⟨b2, o2 + j * 2 + 1, none⟩) l2).trans y3
          obtain ⟨a1, a2⟩ := AP.out i j t u ij ht hu
          have d1 : (u.x == t.x) = false := beq_eq_false_iff_ne.2 a1
          have d2 : (u.w == t.w) = false := beq_eq_false_iff_ne.2 a2
          clear q2 y0 y1 y2 y3 ht hu a1 a2
          go_wp2_with fail
          go_quiet (fail)
          go_wp2_with fail
          go_roundg (j - (i + 1))
          case measure => have := HG2.out; omega
          case rel => exact ⟨i + 1, by omega, rfl, by go_num, chain_drewN BI.out _⟩
        · obtain rfl : i = j := by omega
          go_wp2_with fail
          go_roundg (n4 - (i + 1))
          case measure => have := HG.out; omega
          case rel => exact ⟨i + 1, by omega, rfl, by go_num, BI⟩
    · obtain rfl : j = n4 := by omega
      have B4a := Lib.hid (chain B4.out BJ.out)
      have N4a := Lib.hid (N4.out.below BJ.out)
      have R4a := Lib.hid (R4.out.below BJ.out)
      have L4a := L4
      obtain ⟨c0, c1, c2, c3⟩ := N4a.out.cells
      clear B4 N4 R4 L4
      go_wp2_with fail
      have HDx := Lib.hid (drew_of BJ.out)
      have tmra : (IntKind.i64.wrap d).tmod un = r := by rw [IntWalk.i64_in _ (by omega), Int.tmod_eq_emod_of_nonneg (by omega)]; exact HPr.out
      have tmrb : d % un = r := HPr.out
      have tok5 : True := trivial
      go_region_held3 (fun w' => w'.cell? ⟨w.heap.size, 0, none⟩ = some (.int .i64 c) ∧ w'.cell? ⟨w.heap.size, 1, none⟩ = some (.int .i64 h) ∧ w'.cell? ⟨w.heap.size, 2, none⟩ = some (.int .i64 x) ∧ w'.cell? ⟨w.heap.size, 3, none⟩ = some (.slice A n cA))
        (first | exact ⟨q0, q1, q2, q3⟩ | go_keep)
        (first
          | ((have _t := tok5; clear tok5; go_at_call 31; (with_reducible refine (KT.out _ r us HTr.out (HX.out.below (B4a.out.trans (HDx.out.mono B4a.out.size)))).mono ?_); rintro e w5 ⟨A5, k5, n5, rfl, hn5, hR5, hb, hd1, hd2⟩
              have L5 := Lib.hid hn5
              have R5 := Lib.hid hR5
              clear hn5 hR5
              have HE5 := Lib.hid (HDx.out.trans (hb.mono HDx.out.size))
              have ND5 := Lib.hid (N4a.out.below HE5.out)
              obtain ⟨q0, q1, q2, q3⟩ := ND5.out.cells
              clear hb hd1 hd2))
          | fail)
      have B5 := Lib.hid (chain B4a.out HE5.out)
      have N5 := Lib.hid (N4a.out.below HE5.out)
      clear q0 q1 q2 q3 tmra tmrb c0 c1 c2 c3
      have R5x := Lib.hid (R4a.out.below HE5.out)
      have hn5' : n5 = j := by rw [L5.out, LE.out]; exact L4a.out.symm
      have hn5 := hn5'.symm
      subst hn5
      clear hn5'
      obtain ⟨c0, c1, c2, c3⟩ := N5.out.cells
      go_wp2_with fail
      refine (KS.out _ (HX.out.below B5.out)).mono ?_
      rintro e w6 ⟨A1, k1, n1, rfl, hn1s, hR, hb, hd1, hd2⟩
      rw [ISO.out.1]
      have B6 := Lib.hid (chain B5.out hb)
      have BX6 := Lib.hid hb
      have N6 := Lib.hid (N5.out.below hb)
      rw [shN_ok ISO.out.1] at hR hn1s
      rw [sh_len, ← LX.out] at hn1s
      obtain ⟨bS, oS, rfl, hlS, hcS⟩ := hR (by rw [sh_len]; omega)
      have hkl : kk < ls.length := by rw [← LX.out]; exact kkn
      have hlk := get_ly hkl
      have g2 := sh_get ls ⟨c, h, x⟩ (kk + 1) (by omega)
      rw [show endS ⟨c, h, x⟩ (ls.take (kk + 1)) = K.u by rw [HK.out, at_some ISO.out.1 hlk, end_next hlk]] at g2
      obtain ⟨m, hm⟩ : ∃ m, m = kk + 1 := ⟨_, rfl⟩
      obtain ⟨a0, a1, a2⟩ := sh_at hcS g2
      rw [← hm] at a0 a1 a2
      have HA0 := Lib.hid a0; have HA1 := Lib.hid a1; have HA2 := Lib.hid a2
      have ma : (0 : Int) ≤ (m : Int) := by omega
      have mb : (m : Int) < (n1 : Int) := by omega
      have mb' : m < n1 := by omega
      have v1 : IntKind.i64.wrap ((kk : Int) + 1) = (m : Int) := next_i64 hm (Nat.lt_succ_self kk) (by omega)
      have v2 : wrap64 ((kk : Int) + 1) = (m : Int) := next_wrap hm (Nat.lt_succ_self kk) (by omega)
      have HV1 := Lib.hid v1; have HV2 := Lib.hid v2
      clear hb hd1 hd2 hR hn1s hcS g2 hlk hkl hm v1 v2 a0 a1 a2 B5 N5 c0 c1 c2 c3
      obtain ⟨c0, c1, c2, c3⟩ := N6.out.cells
      have R6x := Lib.hid (R5x.out.below BX6.out)
      have S6x := Lib.hid (R5.out.below BX6.out)
      have a0 := HA0.out
      have a1 := HA1.out
      have a2 := HA2.out
      have hlS6 := hlS
      clear c0 c1 c2 c3
      go_wp2_with fail
      have HD6 : Hid (Below w6.heap.size w6 w6.drew) := below_drew w6
      have tmpa : (IntKind.i64.wrap b).tmod un = p := by rw [IntWalk.i64_in _ (by omega), Int.tmod_eq_emod_of_nonneg (by omega)]; exact HPp.out
      have tmpb : b % un = p := HPp.out
      have v1 := HV1.out
      have v2 := HV2.out
      have tok7 : True := trivial
      go_region_held3 (fun w' => w'.cell? ⟨bS, oS + m * 3, none⟩ = some (.int .i64 K.u.c) ∧ w'.cell? ⟨bS, oS + m * 3 + 1, none⟩ = some (.int .i64 K.u.h) ∧ w'.cell? ⟨bS, oS + m * 3 + 2, none⟩ = some (.int .i64 K.u.x))
        (first | exact ⟨q0, q1, q2⟩ | go_keep)
        (first
          | ((have _t := tok7; clear tok7; go_at_call 37; (with_reducible refine (KOp.out _).mono ?_); rintro e w7 ⟨u7, v7, z7, rfl, hb⟩
              have HE7 := Lib.hid (HD6.out.trans (hb.mono HD6.out.size))
              have q0 := (HE7.out.cell (p := ⟨bS, oS + m * 3, none⟩) hlS6).trans a0
              have q1 := (HE7.out.cell (p := ⟨bS, oS + m * 3 + 1, none⟩) hlS6).trans a1
              have q2 := (HE7.out.cell (p := ⟨bS, oS + m * 3 + 2, none⟩) hlS6).trans a2
              clear hb))
          | fail)
      have B7 := Lib.hid (chain B6.out HE7.out)
      have hlS7 : bS < w7.heap.size := Nat.lt_of_lt_of_le hlS6 HE7.out.size
      clear a0 a1 a2 tmpa tmpb v1 v2 HD6
      have a0 := q0
      have a1 := q1
      have a2 := q2
      clear q0 q1 q2
      go_wp2_with fail
      have HD7 : Hid (Below w7.heap.size w7 w7.drew) := below_drew w7
      have tmra : (IntKind.i64.wrap d).tmod un = r := by rw [IntWalk.i64_in _ (by omega), Int.tmod_eq_emod_of_nonneg (by omega)]; exact HPr.out
      have tmrb : d % un = r := HPr.out
      have v1 := HV1.out
      have v2 := HV2.out
      have tok8 : True := trivial
      go_region_held3 (fun w' => w'.cell? ⟨bS, oS + m * 3, none⟩ = some (.int .i64 K.u.c) ∧ w'.cell? ⟨bS, oS + m * 3 + 1, none⟩ = some (.int .i64 K.u.h) ∧ w'.cell? ⟨bS, oS + m * 3 + 2, none⟩ = some (.int .i64 K.u.x))
        (first | exact ⟨q0, q1, q2⟩ | go_keep)
        (first
          | ((have _t := tok8; clear tok8; go_at_call 37; (with_reducible refine (KOr.out _).mono ?_); rintro e w8 ⟨u8, v8, z8, rfl, hb⟩
              have HE8 := Lib.hid (HD7.out.trans (hb.mono HD7.out.size))
              have q0 := (HE8.out.cell (p := ⟨bS, oS + m * 3, none⟩) hlS7).trans a0
              have q1 := (HE8.out.cell (p := ⟨bS, oS + m * 3 + 1, none⟩) hlS7).trans a1
              have q2 := (HE8.out.cell (p := ⟨bS, oS + m * 3 + 2, none⟩) hlS7).trans a2
              clear hb))
          | fail)
      have B8 := Lib.hid (chain B7.out HE8.out)
      have hlS8 : bS < w8.heap.size := Nat.lt_of_lt_of_le hlS7 HE8.out.size
      clear a0 a1 a2 tmra tmrb v1 v2 HD7
      have a0 := q0
      have a1 := q1
      have a2 := q2
      clear q0 q1 q2
      have R8x := Lib.hid ((R6x.out.below HE7.out).below HE8.out)
      have S8x := Lib.hid ((S6x.out.below HE7.out).below HE8.out)
      clear a0 a1 a2
      go_wp2_with fail
      go_loopg [28] j (fun g s28 wx => ∃ i : Nat, i ≤ j ∧ Hid (g = j - i) ∧ s28 = .int .i64 (i : Int) ∧ Hid (Below w8.heap.size w8 wx))
      case atStart => exact ⟨0, by omega, by show _ = _; omega, rfl, Below.refl _ _⟩
      case round =>
        obtain ⟨i, hi, HG2, rfl, BI⟩ := hrel
        by_cases ij : i < j
        · have ii : (i : Int) < (j : Int) := by omega
          have ia : (0 : Int) ≤ (i : Int) := by omega
          obtain ⟨b2, o2, rfl, l2, q2⟩ := R8x.out (by rw [← L4a.out]; omega)
          obtain ⟨b3, o3, rfl, l3, q3⟩ := S8x.out (by rw [LE.out, ← L4a.out]; omega)
          obtain ⟨t, ht⟩ : ∃ t, ts[i]? = some t := ⟨_, List.getElem?_eq_getElem (by rw [← L4a.out]; omega)⟩
          obtain ⟨u, hu⟩ : ∃ u, us[i]? = some u := ⟨_, List.getElem?_eq_getElem (by rw [LE.out, ← L4a.out]; omega)⟩
          obtain ⟨y0, y1⟩ := t_cells q2 ht
          obtain ⟨y2, y3⟩ := t_cells q3 hu
          have z1 := (BI.out.cell (p := ⟨b2, o2 + i * 2 + 1, none⟩) l2).trans y1
          have z3 := (BI.out.cell (p := ⟨b3, o3 + i * 2 + 1, none⟩) l3).trans y3
          obtain ⟨e1, e2⟩ := PA.out i t u ht hu
          clear q2 q3 y0 y1 y2 y3 ht hu
          by_cases cd : ch = dh
          · have f1 : (ch == dh) = true := beq_iff_eq.2 cd
            have f2 : (ch != dh) = false := by rw [cd]; simp
            have f3 : (t.w != u.w) = false := by rw [e1 cd]; simp
            clear e1 e2 cd
            go_wp2_with fail
            go_quiet (fail)
            go_wp2_with fail
            go_roundg (j - (i + 1))
            case measure => have := HG2.out; omega
            case rel => exact ⟨i + 1, by omega, rfl, by go_num, chain_drewN BI.out _⟩
          · have f1 : (ch == dh) = false := beq_eq_false_iff_ne.2 cd
            have f2 : (ch != dh) = true := by simpa using cd
            by_cases tw : t.w = u.w
            · have f3 : (t.w == u.w) = true := beq_iff_eq.2 tw
              have f4 : decide (0 ≤ t.w) = false := decide_eq_false (by rcases e2 cd with h | h; exact absurd tw h; omega)
              clear e1 e2 cd tw
              go_wp2_with fail
              go_quiet (fail)
              go_wp2_with fail
              go_roundg (j - (i + 1))
              case measure => have := HG2.out; omega
              case rel => exact ⟨i + 1, by omega, rfl, by go_num, chain_drewN BI.out _⟩
            · have f3 : (t.w == u.w) = false := beq_eq_false_iff_ne.2 tw
              clear e1 e2 cd tw
              go_wp2_with fail
              go_quiet (fail)
              go_wp2_with fail
              go_roundg (j - (i + 1))
              case measure => have := HG2.out; omega
              case rel => exact ⟨i + 1, by omega, rfl, by go_num, chain_drewN BI.out _⟩
        · obtain rfl : i = j := by omega
          go_wp2_with fail
          go_ret
          exact ⟨rfl, chain B8.out BI.out⟩

end Go.Proofs.Ytnnebdpmmkjfnaa
