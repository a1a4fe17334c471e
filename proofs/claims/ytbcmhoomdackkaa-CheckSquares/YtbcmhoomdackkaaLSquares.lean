/-
  CheckSquares: with a Square more, anywhere, a network is right still, if there is room for it.
-/
import Derived.Test.YtbcmhoomdackkaaCutL
import Derived.Deep.DeepCutAuto
namespace Go.Proofs.Ytbcmhoomdackkaa
open Go.RowKit Go

theorem sq_take {w : World} {A : Option Addr} {ls : List Ly} (h : Rl w A ls) (k : Nat) : Rl w A (ls.take k) := fun h0 => by
  rw [List.length_take] at h0
  obtain ⟨b, off, e, hlt, hc⟩ := h (by omega)
  refine ⟨b, off, e, hlt, fun j hj => ?_⟩
  rw [List.length_take] at hj
  have : (ls.take k).getD j Ly.z = ls.getD j Ly.z := by
    rw [List.getD_eq_getElem?_getD, List.getD_eq_getElem?_getD, List.getElem?_take, if_pos (by omega)]
  rw [this]
  exact hc j (by omega)
theorem sq_drop {w : World} {A : Option Addr} {ls : List Ly} {n cap : Nat} (h : Rl w A ls) (ln : n = ls.length) (hc : n ≤ cap) (k : Nat) : Rl w (if cap = k then A else A.map (·.add (k * 4))) (ls.drop k) := fun h0 => by
  rw [List.length_drop] at h0
  obtain ⟨b, off, rfl, hlt, hcell⟩ := h (by omega)
  rw [if_neg (by omega)]
  refine ⟨b, off + k * 4, by simp [Addr.add], hlt, fun j hj => ?_⟩
  rw [List.length_drop] at hj
  have e1 : (ls.drop k).getD j Ly.z = ls.getD (k + j) Ly.z := by
    rw [List.getD_eq_getElem?_getD, List.getD_eq_getElem?_getD, List.getElem?_drop]
  rw [e1, show off + k * 4 + j * 4 = off + (k + j) * 4 by omega]
  exact hcell (k + j) (by omega)
theorem sq_to (A : Option Addr) (n cap k : Nat) (h1 : k ≤ n) (h2 : n ≤ cap) (w : World) : (Instr.slice 24 (.slice A n cap) none (some (.int .i64 (k : Int))) none).run Try.prog w = .ok (.slice A k cap) w := by
  have : k ≤ cap := by omega
  first | (go_simp; done) | (go_simp; intro hh; omega) | (rcases A with _ | A <;> go_simp <;> (try intro hh) <;> omega)
theorem sq_from (A : Option Addr) (n cap k : Nat) (h1 : k ≤ n) (h2 : n ≤ cap) (w : World) : (Instr.slice 24 (.slice A n cap) (some (.int .i64 (k : Int))) none none).run Try.prog w = .ok (.slice (if cap = k then A else A.map (·.add (k * 4))) (n - k) (cap - k)) w := by
  by_cases hc : cap = k
  · subst hc
    obtain rfl : n = cap := by omega
    go_simp
  · rcases A with _ | ad
    · go_simp
    · go_simp
theorem step_layE {ops : Array Oper} {o : Oper} {a : Act} {w : World} {K : Act → World → Prop} {Q : Exit → Act → World → Prop} {E : Prop} (hgd : o.guard = none) (s x : Operand)
    (ho : o.op = .call { callee := .builtin .append, args := #[s, x], argTypes := #[24, 24] }) (B : Nat) (v : Value) (hs : a.eval s = v) (hown : w.ownsRow B 40 4 v 0 [])
    (A : Option Addr) (m c : Nat) (ys : List Ly) (hx : a.eval x = .slice A m c) (hy : Rl w A ys) (hm : m = ys.length) (hz : m ≤ 100000) (hB : B ≤ w.heap.size)
    (h : ∀ A' c' w', w'.ownsRow B 40 4 (.slice A' m c') m (lcells ys) → w.grownBy w' v.ownBlock → ((Value.slice A' m c').ownBlock = v.ownBlock ∨ (Value.slice A' m c').ownBlock = some w.heap.size) → K (a.put o.dst (.slice A' m c')) w') :
    if Region.wanted o (yielded ops a.tmps) = true then Oper.wp Try.prog o a w K Q else E :=
  step_lay hgd s x ho B v 0 [] hs hown A m c ys hx hy hm (by omega) hB fun A' c' w' h1 h2 h3 => by
    rw [Nat.zero_add] at h1 h3 ⊢
    rw [List.nil_append] at h1
    exact h A' c' w' h1 h2 h3
theorem qb_far {w w' : World} {g : Nat} {l : Ly} {v : Value} (hg : w.grownBy w' v.ownBlock) (hq : QB w g l) (hne : v.ownBlock ≠ some g) : QB w' g l :=
  (hg.block g (Array.getElem?_eq_some_iff.1 hq).1 (fun e => hne e.symm)).trans hq
theorem QB.lt {w : World} {g : Nat} {l : Ly} (h : QB w g l) : g < w.heap.size := (Array.getElem?_eq_some_iff.1 h).1
theorem far_next {w : World} {g : Nat} {u v : Value} (h : v.ownBlock ≠ some g) (hb : u.ownBlock = v.ownBlock ∨ u.ownBlock = some w.heap.size) (hg : g < w.heap.size) : u.ownBlock ≠ some g := fun e => by
  rcases hb with hb | hb
  · exact h (hb.symm.trans e)
  · rw [hb] at e; injection e with e; omega
theorem sq_cells {w : World} {b off : Nat} {ss : List Sh} (h : ∀ j u, (ss.flatMap scells)[j]? = some u → w.cell? ⟨b, off + j, none⟩ = some u) {k : Nat} {S : Sh} (hS : ss[k]? = some S) :
    w.cell? ⟨b, off + k * 3, none⟩ = some (.int .i64 S.c) ∧ w.cell? ⟨b, off + k * 3 + 1, none⟩ = some (.int .i64 S.h) ∧ w.cell? ⟨b, off + k * 3 + 2, none⟩ = some (.int .i64 S.x) := sh_at h hS

set_option maxHeartbeats 40000000 in
set_option maxRecDepth 100000 in
theorem law_squares (c h x : Int) (A : Option Addr) (cA n : Nat) (ls : List Ly) (a : Int) (w : World) (hx : Rl w A ls) (ln : n = ls.length) (hcap : n ≤ cA) (_hmax : cA ≤ maxLen) (ha : 0 ≤ a ∧ a ≤ 255) :
    Calls Try.prog 4 #[.agg #[.int .i64 c, .int .i64 h, .int .i64 x, .slice A n cA], .int .u8 a] w fun e w' => e = .returned (.bool true) ∧ Below w.heap.size w w' := by
  have HX := Lib.hid hx; have LX := Lib.hid ln
  clear hx ln _hmax
  obtain ⟨ha0, ha1⟩ := ha
  go_enter Try.func4, Try.ntmps4
  go_wp2_with fail
  refine (head_any _).mono ?_
  rintro e w1 ⟨rfl, hb⟩
  have B1 := Lib.hid (chain ((Below.refl w.heap.size w).alloc (Nat.le_refl _) _) hb)
  have N1 := Lib.hid ((NB.new w c h x (.slice A n cA)).below hb)
  obtain ⟨c0, c1, c2, c3⟩ := N1.out.cells
  clear hb
  by_cases hg : 60 < n
  · have d : decide (60 < (n : Int)) = true := by simp; omega
    go_wp2_with fail
    refine (great_any c h x A cA n _ true d).mono ?_
    rintro e w2 ⟨rfl, hb⟩
    have B2 := Lib.hid (chain B1.out hb)
    clear hb
    go_wp2_with fail
    go_ret
    exact ⟨rfl, B2.out⟩
  have d : decide (60 < (n : Int)) = false := by simp; omega
  have hn : n ≤ 60 := by omega
  have hn1 : n ≤ 1000 := by omega
  go_wp2_with fail
  refine (great_any c h x A cA n _ false d).mono ?_
  rintro e w2 ⟨rfl, hb⟩
  have B2 := Lib.hid (chain B1.out hb)
  have N2 := Lib.hid (N1.out.below hb)
  clear hb B1 N1 c0 c1 c2 c3 hg d
  obtain ⟨c0, c1, c2, c3⟩ := N2.out.cells
  by_cases he : ¬ errN ⟨c, h, x, ls⟩ = 0
  · have HE := Lib.hid he
    clear he
    go_wp2_with fail
    refine (okay_to c h x A cA n ls false (by simpa using HE.out) _ (HX.out.below B2.out) LX.out hn1).mono ?_
    rintro e w3 ⟨rfl, hb⟩
    have B3 := Lib.hid (chain B2.out hb)
    clear hb B2 N2 c0 c1 c2 c3
    go_wp2_with fail
    go_ret
    exact ⟨rfl, B3.out⟩
  have he := Decidable.not_not.1 he
  have HE := Lib.hid he
  clear he
  go_wp2_with fail
  refine (okay_to c h x A cA n ls true (by rw [HE.out]; rfl) _ (HX.out.below B2.out) LX.out hn1).mono ?_
  rintro e w3 ⟨rfl, hb⟩
  have B3 := Lib.hid (chain B2.out hb)
  have N3 := Lib.hid (N2.out.below hb)
  clear hb B2 N2 c0 c1 c2 c3
  obtain ⟨c0, c1, c2, c3⟩ := N3.out.cells
  by_cases h8 : 8 ≤ n
  · have d : decide (8 ≤ (n : Int)) = true := by simp; omega
    have d2 : decide (8 ≤ n) = true := by simp; omega
    clear h8
    go_wp2_with fail
    go_ret
    exact ⟨rfl, B3.out⟩
  have d8 : decide (8 ≤ (n : Int)) = false := by simp; omega
  have e8 : decide (8 ≤ n) = false := by simp; omega
  obtain ⟨k, hk⟩ : ∃ k : Nat, a % ((n : Int) + 1) = (k : Int) := ⟨(a % ((n : Int) + 1)).toNat, by have := Int.emod_nonneg a (show ((n : Int) + 1) ≠ 0 by omega); omega⟩
  have hkn : k ≤ n := by have := Int.emod_lt_of_pos a (show 0 < (n : Int) + 1 by omega); omega
  have hk2 : a.tmod ((n : Int) + 1) = (k : Int) := by rw [Int.tmod_eq_emod_of_nonneg ha0]; exact hk
  have hn0 : ¬ (n : Int) + 1 = 0 := by omega
  obtain ⟨S, hS⟩ : ∃ S, S = endS ⟨c, h, x⟩ (ls.take k) := ⟨_, rfl⟩
  obtain ⟨T, hT⟩ : ∃ T, T = endS ⟨c, h, x⟩ (ls.take n) := ⟨_, rfl⟩
  have SM := square_more (k := k) HE.out (by rw [← LX.out]; omega) (by rw [← LX.out]; omega)
  rw [← hS] at SM
  obtain ⟨s1, s2, s3, s4⟩ := SM
  have G1 : Hid ((shL ⟨c, h, x⟩ ls)[k]? = some S) := by show _ = _; rw [hS]; exact sh_get ls _ k (by rw [← LX.out]; exact hkn)
  have G2 : Hid ((shL ⟨c, h, x⟩ ls)[n]? = some T) := by show _ = _; rw [hT]; exact sh_get ls _ n (by rw [← LX.out]; exact Nat.le_refl _)
  obtain ⟨X, hX⟩ : ∃ X, X = sumW ⟨c, h, x⟩ ls := ⟨_, rfl⟩
  obtain ⟨Y, hY⟩ : ∃ Y, Y = sumP ⟨c, h, x⟩ ls := ⟨_, rfl⟩
  rw [← hX] at s3
  rw [← hY] at s1 s4
  have S1 := Lib.hid s1; have S2 := Lib.hid s2; have S3 := Lib.hid s3; have S4 := Lib.hid s4; have HXE := Lib.hid hX; have HYE := Lib.hid hY
  obtain ⟨y0, y1⟩ : 0 ≤ Y ∧ Y ≤ 512 := by
    obtain ⟨r, f3, t, _, p5, _⟩ := ok_all HE.out
    have r : (⟨c, h, x⟩ : Sh).r = true := r
    exact ⟨by rw [hY]; exact (sums_nn r f3 t).2, by rw [hY]; exact p5⟩
  have sz := size_bd S
  obtain ⟨sn, hsn⟩ : ∃ sn, sn = S.n := ⟨_, rfl⟩
  rw [← hsn] at sz
  have HSN := Lib.hid hsn
  obtain ⟨Z, hZ⟩ : ∃ Z, Z = Y + sn := ⟨_, rfl⟩
  have HZ := Lib.hid hZ
  obtain ⟨na, hna⟩ : ∃ na, na = n + 1 := ⟨_, rfl⟩
  obtain ⟨nb, hnb⟩ : ∃ nb, nb = n + 2 := ⟨_, rfl⟩
  obtain ⟨j, hj⟩ : ∃ j, j = k + 1 := ⟨_, rfl⟩
  have HNA := Lib.hid hna; have HNB := Lib.hid hnb; have HJ := Lib.hid hj
  have z1 : IntKind.i64.wrap (Y + sn) = Z := by rw [hZ, IntWalk.i64_in _ (by omega)]
  have z2 : wrap64 (Y + sn) = Z := by rw [hZ, IntWalk.wrap64_in _ (by omega)]
  have gk : decide ((na : Int) ≤ (k : Int)) = false := by simp; omega
  have gk2 : decide (na ≤ k) = false := by simp; omega
  clear s1 s2 s3 s4 hS hT hX hY hsn hZ
  go_wp2_with fail
  refine (shapes_is c h x A cA n ls 0 (shL ⟨c, h, x⟩ ls) HE.out (shN_ok HE.out) _ (HX.out.below B3.out) LX.out hn1).mono ?_
  rintro e W ⟨A5, k5, n5, rfl, hn5, hR5, hb, hc5, hm5⟩
  rw [sh_len, ← LX.out] at hn5
  obtain rfl : na = n5 := by rw [hn5, HNA.out]
  obtain ⟨b5, o5, rfl, l5, q5⟩ := hR5 (by rw [sh_len]; omega)
  have Q5 := Lib.hid q5
  have BW := Lib.hid (chain B3.out hb)
  have NW := Lib.hid (N3.out.below hb)
  clear hb hR5 q5 B3 N3 c0 c1 c2 c3 hc5 hm5 hn5 hna hnb hj hk hk2 hn0 d8 e8
  obtain ⟨c0, c1, c2, c3⟩ := NW.out.cells
  have lN := NW.out.lt
  have hto := sq_to A n cA k hkn hcap
  have hfr := sq_from A n cA k hkn hcap
  have LTK : Hid (k = (ls.take k).length) := by show _ = _; rw [List.length_take, ← LX.out]; omega
  have LDK : Hid (n - k = (ls.drop k).length) := by show _ = _; rw [List.length_drop, ← LX.out]
  obtain ⟨AR, hAR⟩ : ∃ AR, AR = (if cA = k then A else A.map (·.add (k * 4))) := ⟨_, rfl⟩
  obtain ⟨nR, hnR⟩ : ∃ nR, nR = n - k := ⟨_, rfl⟩
  obtain ⟨cR, hcR⟩ : ∃ cR, cR = cA - k := ⟨_, rfl⟩
  have DR : Hid (∀ V : World, Rl V A ls → Rl V AR (ls.drop k)) := fun V hV => by rw [hAR]; exact sq_drop hV LX.out hcap k
  rw [← hAR, ← hnR, ← hcR] at hfr
  rw [← hnR] at LDK
  have nsum : k + 1 + nR = n + 1 := by omega
  have NSUM := Lib.hid nsum
  have ka0 : (0 : Int) ≤ (k : Int) := by omega
  have nR1 : nR ≤ 1000 := by omega
  clear hAR hnR hcR nsum
  go_upto_region 8 with fail
  go_cut [9] (fun s9 wx => ∃ (z : Nat) (A9 : Option Addr) (c9 : Nat), s9 = .pointer (some ⟨z, 0, none⟩) ∧ Made W wx z c h x A9 (n + 1) c9 (ls.take k ++ [sqLy] ++ ls.drop k))
  case first =>
    as_aux_lemma =>
      go_wp2_with fail
      have gk := trivial
      clear gk gk2 z1 z2
      refine wp_region_noPanic ?_
      refine wp_region_held_drew (S := (fun w' => w'.cell? ⟨w.heap.size, 0, none⟩ = some (.int .i64 c) ∧ w'.cell? ⟨w.heap.size, 1, none⟩ = some (.int .i64 h) ∧ w'.cell? ⟨w.heap.size, 2, none⟩ = some (.int .i64 x) ∧ w'.cell? ⟨w.heap.size, 3, none⟩ = some (.slice A n cA))) (by kernel_rfl) (by (try dsimp only); simp [*]) (fun hHeld => ?_)
      have BV0 : Hid (Below W.heap.size W W.drew) := below_drew W
      generalize W.drew = V0 at BV0 hHeld ⊢
      refine wpAnyH_take (i := 0) (v := ?vv1) (by simp only [List.getElem?_toArray, List.getElem?_cons_zero]; rfl) (by kernel_rfl) (by kernel_rfl) (by kernel_rfl) (fun _ _ _ h => h) (Or.inl ⟨by rfl, ?yy1⟩) (by assumption) ?rr1
      case yy1 => (intro w hSw; (try dsimp only at hSw); go_simp; first | done | with_reducible rfl)
      simp only [Act.put, List.setIfInBounds_toArray, List.set_cons_zero, List.set_cons_succ]
      refine wpAnyH_take (i := 1) (v := ?vv2) (by simp only [List.getElem?_toArray, List.getElem?_cons_zero, List.getElem?_cons_succ]; rfl) (by kernel_rfl) (by kernel_rfl) (by kernel_rfl) (fun _ _ _ h => h) (Or.inl ⟨by rfl, ?yy2⟩) (by assumption) ?rr2
      case yy2 => (intro w hSw; (try dsimp only at hSw); go_simp; first | done | with_reducible rfl)
      simp only [Act.put, List.setIfInBounds_toArray, List.set_cons_zero, List.set_cons_succ]
      refine wpAnyH_take (i := 3) (v := ?vv3) (by simp only [List.getElem?_toArray, List.getElem?_cons_zero, List.getElem?_cons_succ]; rfl) (by kernel_rfl) (by kernel_rfl) (by kernel_rfl) (fun _ _ _ h => h) (Or.inl ⟨by rfl, ?yy3⟩) (by assumption) ?rr3
      case yy3 => (intro w hSw; (try dsimp only at hSw); go_simp; first | done | with_reducible rfl)
      simp only [Act.put, List.setIfInBounds_toArray, List.set_cons_zero, List.set_cons_succ]
      refine wpAnyH_take (i := 4) (v := ?vv4) (by simp only [List.getElem?_toArray, List.getElem?_cons_zero, List.getElem?_cons_succ]; rfl) (by kernel_rfl) (by kernel_rfl) (by kernel_rfl) (fun _ _ _ h => h) (Or.inl ⟨by rfl, ?yy4⟩) (by assumption) ?rr4
      case yy4 => (intro w hSw; (try dsimp only at hSw); go_simp; first | done | with_reducible rfl)
      simp only [Act.put, List.setIfInBounds_toArray, List.set_cons_zero, List.set_cons_succ]
      refine wpAnyH_take (i := 5) (v := ?vv5) (by simp only [List.getElem?_toArray, List.getElem?_cons_zero, List.getElem?_cons_succ]; rfl) (by kernel_rfl) (by kernel_rfl) (by kernel_rfl) (fun _ _ _ h => h) (Or.inl ⟨by rfl, ?yy5⟩) (by assumption) ?rr5
      case yy5 => (intro w hSw; (try dsimp only at hSw); go_simp; first | done | with_reducible rfl)
      simp only [Act.put, List.setIfInBounds_toArray, List.set_cons_zero, List.set_cons_succ]
      refine wpAnyH_take (i := 6) (v := ?vv6) (by simp only [List.getElem?_toArray, List.getElem?_cons_zero, List.getElem?_cons_succ]; rfl) (by kernel_rfl) (by kernel_rfl) (by kernel_rfl) (fun _ _ _ h => h) (Or.inl ⟨by rfl, ?yy6⟩) (by assumption) ?rr6
      case yy6 => (intro w hSw; (try dsimp only at hSw); go_simp; first | done | with_reducible rfl)
      simp only [Act.put, List.setIfInBounds_toArray, List.set_cons_zero, List.set_cons_succ]
      refine wpAnyH_take (i := 8) (v := ?vv7) (by simp only [List.getElem?_toArray, List.getElem?_cons_zero, List.getElem?_cons_succ]; rfl) (by kernel_rfl) (by kernel_rfl) (by kernel_rfl) (fun _ _ _ h => h) (Or.inl ⟨by rfl, ?yy7⟩) (by assumption) ?rr7
      case yy7 => (intro w hSw; (try dsimp only at hSw); go_simp; first | done | with_reducible rfl)
      simp only [Act.put, List.setIfInBounds_toArray, List.set_cons_zero, List.set_cons_succ]
      refine wpAnyH_take (i := 11) (v := ?vv8) (by simp only [List.getElem?_toArray, List.getElem?_cons_zero, List.getElem?_cons_succ]; rfl) (by kernel_rfl) (by kernel_rfl) (by kernel_rfl) (fun _ _ _ h => h) (Or.inl ⟨by rfl, ?yy8⟩) (by assumption) ?rr8
      case yy8 => (intro w hSw; (try dsimp only at hSw); go_simp; first | done | with_reducible rfl)
      simp only [Act.put, List.setIfInBounds_toArray, List.set_cons_zero, List.set_cons_succ]
      refine wpAnyH_take (i := 12) (v := ?vv9) (by simp only [List.getElem?_toArray, List.getElem?_cons_zero, List.getElem?_cons_succ]; rfl) (by kernel_rfl) (by kernel_rfl) (by kernel_rfl) (fun _ _ _ h => h) (Or.inl ⟨by rfl, ?yy9⟩) (by assumption) ?rr9
      case yy9 => (intro w hSw; (try dsimp only at hSw); go_simp; first | done | with_reducible rfl)
      simp only [Act.put, List.setIfInBounds_toArray, List.set_cons_zero, List.set_cons_succ]
      refine wpAnyH_take (i := 13) (v := ?vv10) (by simp only [List.getElem?_toArray, List.getElem?_cons_zero, List.getElem?_cons_succ]; rfl) (by kernel_rfl) (by kernel_rfl) (by kernel_rfl) (fun _ _ _ h => h) (Or.inl ⟨by rfl, ?yy10⟩) (by assumption) ?rr10
      case yy10 => (intro w hSw; (try dsimp only at hSw); go_simp; first | done | with_reducible rfl)
      simp only [Act.put, List.setIfInBounds_toArray, List.set_cons_zero, List.set_cons_succ]
      refine wpAnyH_take (i := 14) (v := ?vv11) (by simp only [List.getElem?_toArray, List.getElem?_cons_zero, List.getElem?_cons_succ]; rfl) (by kernel_rfl) (by kernel_rfl) (by kernel_rfl) (fun _ _ _ h => h) (Or.inl ⟨by rfl, ?yy11⟩) (by assumption) ?rr11
      case yy11 => (intro w hSw; (try dsimp only at hSw); go_simp; first | done | with_reducible rfl)
      simp only [Act.put, List.setIfInBounds_toArray, List.set_cons_zero, List.set_cons_succ]
      clear hto hfr
      refine wpAnyH_ready (rs := [2, 9, 17]) (by kernel_rfl) (by simp) ?_
      refine AllReadyH.cons (by simp only [List.getElem?_toArray, List.getElem?_cons_zero, List.getElem?_cons_succ]; rfl) (fun K hK => ?_) ?_
      · go_simp
        have BV1 : Hid (Below W.heap.size W (V0.alloc (.cells #[] 40))) := BV0.out.alloc BV0.out.size _
        obtain ⟨geV1, hgeV1⟩ : ∃ g, g = V0.heap.size := ⟨_, rfl⟩
        have OV1 : Hid ((V0.alloc (.cells #[] 40)).ownsRow W.heap.size 40 4 (.slice (some ⟨geV1, 0, none⟩) 0 0) 0 []) := by rw [hgeV1]; exact own_void (heap_alloc_new V0 _) BV0.out.size
        rw [← hgeV1]
        have q0 := (BV1.out.cell (p := ⟨w.heap.size, 0, none⟩) lN).trans c0
        have q1 := (BV1.out.cell (p := ⟨w.heap.size, 1, none⟩) lN).trans c1
        have q2 := (BV1.out.cell (p := ⟨w.heap.size, 2, none⟩) lN).trans c2
        have q3 := (BV1.out.cell (p := ⟨w.heap.size, 3, none⟩) lN).trans c3
        refine hK.out _ _ ⟨q0, q1, q2, q3⟩ (fun hHeld => ?_)
        clear hK K q0 q1 q2 q3 hgeV1
        try simp only [Act.put, List.setIfInBounds_toArray, List.set_cons_zero, List.set_cons_succ]
        generalize V0.alloc (.cells #[] 40) = V1 at hHeld BV1 OV1 ⊢
        refine wpAnyH_ready (rs := [7, 9, 17]) (by kernel_rfl) (by simp) ?_
        refine AllReadyH.cons (by simp only [List.getElem?_toArray, List.getElem?_cons_zero, List.getElem?_cons_succ]; rfl) (fun K hK => ?_) ?_
        · refine step_layE rfl _ _ rfl W.heap.size (.slice (some ⟨geV1, 0, none⟩) 0 0) rfl OV1.out A k cA (ls.take k) rfl (sq_take (HX.out.below (chain BW.out BV1.out)) k) LTK.out (by omega) BV1.out.size ?_
          intro A1 kA1 V2 hown hgrow hblk
          have BV2 : Hid (Below W.heap.size W V2) := BV1.out.grown hgrow BV1.out.size (fun q hk => (OV1.out.lt q hk).1)
          have OV2 := Lib.hid hown
          have q0 := (BV2.out.cell (p := ⟨w.heap.size, 0, none⟩) lN).trans c0
          have q1 := (BV2.out.cell (p := ⟨w.heap.size, 1, none⟩) lN).trans c1
          have q2 := (BV2.out.cell (p := ⟨w.heap.size, 2, none⟩) lN).trans c2
          have q3 := (BV2.out.cell (p := ⟨w.heap.size, 3, none⟩) lN).trans c3
          refine hK.out _ _ ⟨q0, q1, q2, q3⟩ (fun hHeld => ?_)
          clear hK K q0 q1 q2 q3 hown hgrow hblk
          try simp only [Act.put, List.setIfInBounds_toArray, List.set_cons_zero, List.set_cons_succ]
          refine wpAnyH_ready (rs := [9, 17]) (by kernel_rfl) (by simp) ?_
          refine AllReadyH.cons (by simp only [List.getElem?_toArray, List.getElem?_cons_zero, List.getElem?_cons_succ]; rfl) (fun K hK => ?_) ?_
          · go_simp
            have BV3 : Hid (Below W.heap.size W (V2.alloc (.cells #[.int .i64 2, .int .i64 0, .int .i64 0, .int .i64 0] 40))) := BV2.out.alloc BV2.out.size _
            have OV3 := Lib.hid (OV2.out.alloc (.cells #[.int .i64 2, .int .i64 0, .int .i64 0, .int .i64 0] 40))
            obtain ⟨gq, hgq⟩ : ∃ g, g = V2.heap.size := ⟨_, rfl⟩
            have QV3 : Hid (QB (V2.alloc (.cells #[.int .i64 2, .int .i64 0, .int .i64 0, .int .i64 0] 40)) gq sqLy) := by rw [hgq]; exact qb_new V2 2 0 0 0
            have FV3 : Hid ((Value.slice A1 k kA1).ownBlock ≠ some gq) := fun e => by have := (OV2.out.lt _ e).2; omega
            rw [← hgq]
            have q0 := (BV3.out.cell (p := ⟨w.heap.size, 0, none⟩) lN).trans c0
            have q1 := (BV3.out.cell (p := ⟨w.heap.size, 1, none⟩) lN).trans c1
            have q2 := (BV3.out.cell (p := ⟨w.heap.size, 2, none⟩) lN).trans c2
            have q3 := (BV3.out.cell (p := ⟨w.heap.size, 3, none⟩) lN).trans c3
            refine hK.out _ _ ⟨q0, q1, q2, q3⟩ (fun hHeld => ?_)
            clear hK K q0 q1 q2 q3 hgq
            try simp only [Act.put, List.setIfInBounds_toArray, List.set_cons_zero, List.set_cons_succ]
            generalize V2.alloc (.cells #[.int .i64 2, .int .i64 0, .int .i64 0, .int .i64 0] 40) = V3 at hHeld BV3 OV3 QV3 ⊢
            refine wpAnyH_ready (rs := [10, 17]) (by kernel_rfl) (by simp) ?_
            refine AllReadyH.cons (by simp only [List.getElem?_toArray, List.getElem?_cons_zero, List.getElem?_cons_succ]; rfl) (fun K hK => ?_) ?_
            · refine step_lay rfl _ _ rfl W.heap.size (.slice A1 k kA1) k (ls.take k) rfl OV3.out (some ⟨gq, 0, none⟩) 1 1 [sqLy] rfl (rl_q QV3.out) rfl (by omega) BV3.out.size ?_
              intro A2 kA2 V4 hown hgrow hblk
              have BV4 : Hid (Below W.heap.size W V4) := BV3.out.grown hgrow BV3.out.size (fun q hk => (OV3.out.lt q hk).1)
              have OV4 := Lib.hid hown
              have QV4 := Lib.hid (qb_far hgrow QV3.out FV3.out)
              have FV4 := Lib.hid (far_next FV3.out hblk QV3.out.lt)
              have q0 := (BV4.out.cell (p := ⟨w.heap.size, 0, none⟩) lN).trans c0
              have q1 := (BV4.out.cell (p := ⟨w.heap.size, 1, none⟩) lN).trans c1
              have q2 := (BV4.out.cell (p := ⟨w.heap.size, 2, none⟩) lN).trans c2
              have q3 := (BV4.out.cell (p := ⟨w.heap.size, 3, none⟩) lN).trans c3
              refine hK.out _ _ ⟨q0, q1, q2, q3⟩ (fun hHeld => ?_)
              clear hK K q0 q1 q2 q3 hown hgrow hblk
              try simp only [Act.put, List.setIfInBounds_toArray, List.set_cons_zero, List.set_cons_succ]
              refine wpAnyH_ready (rs := [15, 17]) (by kernel_rfl) (by simp) ?_
              refine AllReadyH.cons (by simp only [List.getElem?_toArray, List.getElem?_cons_zero, List.getElem?_cons_succ]; rfl) (fun K hK => ?_) ?_
              · refine step_lay rfl _ _ rfl W.heap.size (.slice A2 (k + 1) kA2) (k + 1) (ls.take k ++ [sqLy]) rfl OV4.out AR nR cR (ls.drop k) rfl (DR.out _ (HX.out.below (chain BW.out BV4.out))) LDK.out (by omega) BV4.out.size ?_
                intro A3 kA3 V5 hown hgrow hblk
                have BV5 : Hid (Below W.heap.size W V5) := BV4.out.grown hgrow BV4.out.size (fun q hk => (OV4.out.lt q hk).1)
                have OV5 := Lib.hid hown
                have QV5 := Lib.hid (qb_far hgrow QV4.out FV4.out)
                have FV5 := Lib.hid (far_next FV4.out hblk QV4.out.lt)
                have q0 := (BV5.out.cell (p := ⟨w.heap.size, 0, none⟩) lN).trans c0
                have q1 := (BV5.out.cell (p := ⟨w.heap.size, 1, none⟩) lN).trans c1
                have q2 := (BV5.out.cell (p := ⟨w.heap.size, 2, none⟩) lN).trans c2
                have q3 := (BV5.out.cell (p := ⟨w.heap.size, 3, none⟩) lN).trans c3
                refine hK.out _ _ ⟨q0, q1, q2, q3⟩ (fun hHeld => ?_)
                clear hK K q0 q1 q2 q3 hown hgrow hblk
                try simp only [Act.put, List.setIfInBounds_toArray, List.set_cons_zero, List.set_cons_succ]
                refine wpAnyH_take (i := 16) (v := ?vv12) (by simp only [List.getElem?_toArray, List.getElem?_cons_zero, List.getElem?_cons_succ]; rfl) (by kernel_rfl) (by kernel_rfl) (by kernel_rfl) (fun _ _ _ h => h) (Or.inl ⟨by rfl, ?yy12⟩) (by assumption) ?rr12
                case yy12 => (intro w hSw; (try dsimp only at hSw); go_simp; first | done | with_reducible rfl)
                simp only [Act.put, List.setIfInBounds_toArray, List.set_cons_zero, List.set_cons_succ]
                refine wpAnyH_ready (rs := [17]) (by kernel_rfl) (by simp) ?_
                refine AllReadyH.cons (by simp only [List.getElem?_toArray, List.getElem?_cons_zero, List.getElem?_cons_succ]; rfl) (fun K hK => ?_) ?_
                · go_simp
                  have BV6 : Hid (Below W.heap.size W (V5.alloc (.cells #[.int .i64 0, .int .i64 0, .int .i64 0, .slice none 0 0] 26))) := BV5.out.alloc BV5.out.size _
                  have OV6 := Lib.hid (OV5.out.alloc (.cells #[.int .i64 0, .int .i64 0, .int .i64 0, .slice none 0 0] 26))
                  have QV6 := Lib.hid (QV5.out.alloc (.cells #[.int .i64 0, .int .i64 0, .int .i64 0, .slice none 0 0] 26))
                  have FV6 := FV5
                  obtain ⟨gz, hgz⟩ : ∃ g, g = V5.heap.size := ⟨_, rfl⟩
                  have ZV6 : Hid (NB (V5.alloc (.cells #[.int .i64 0, .int .i64 0, .int .i64 0, .slice none 0 0] 26)) gz 0 0 0 (.slice none 0 0)) := by rw [hgz]; exact NB.new V5 0 0 0 _
                  have GZ : Hid (W.heap.size ≤ gz) := by rw [hgz]; exact BV5.out.size
                  rw [← hgz]
                  have q0 := (BV6.out.cell (p := ⟨w.heap.size, 0, none⟩) lN).trans c0
                  have q1 := (BV6.out.cell (p := ⟨w.heap.size, 1, none⟩) lN).trans c1
                  have q2 := (BV6.out.cell (p := ⟨w.heap.size, 2, none⟩) lN).trans c2
                  have q3 := (BV6.out.cell (p := ⟨w.heap.size, 3, none⟩) lN).trans c3
                  refine hK.out _ _ ⟨q0, q1, q2, q3⟩ (fun hHeld => ?_)
                  clear hK K q0 q1 q2 q3 hgz
                  try simp only [Act.put, List.setIfInBounds_toArray, List.set_cons_zero, List.set_cons_succ]
                  generalize V5.alloc (.cells #[.int .i64 0, .int .i64 0, .int .i64 0, .slice none 0 0] 26) = V6 at hHeld BV6 OV6 QV6 ZV6 ⊢
                  refine wpAnyH_ready (rs := [18]) (by kernel_rfl) (by simp) ?_
                  refine AllReadyH.cons (by simp only [List.getElem?_toArray, List.getElem?_cons_zero, List.getElem?_cons_succ]; rfl) (fun K hK => ?_) ?_
                  · obtain ⟨z0, z1, z2, z3⟩ := ZV6.out.cells
                    have f0 : V6.frozen? ⟨gz, 0, none⟩ = false := Lib.frozen_of_heap ZV6.out 0
                    have f1 : V6.frozen? ⟨gz, 1, none⟩ = false := Lib.frozen_of_heap ZV6.out 1
                    have f2 : V6.frozen? ⟨gz, 2, none⟩ = false := Lib.frozen_of_heap ZV6.out 2
                    have f3 : V6.frozen? ⟨gz, 3, none⟩ = false := Lib.frozen_of_heap ZV6.out 3
                    go_simp
                    have MV7 : Hid (Made W ((((V6.setCell ⟨gz, 0, none⟩ (.int .i64 c)).setCell ⟨gz, 1, none⟩ (.int .i64 h)).setCell ⟨gz, 2, none⟩ (.int .i64 x)).setCell ⟨gz, 3, none⟩ (.slice A3 (k + 1 + nR) kA3)) gz c h x A3 (n + 1) kA3 (ls.take k ++ [sqLy] ++ ls.drop k)) := by
                      have h1 : k + 1 + nR = (ls.take k ++ [sqLy] ++ ls.drop k).length := by rw [List.length_append, List.length_append, ← LTK.out, ← LDK.out]; rfl
                      have := made_set (c := c) (h := h) (x := x) BV6.out GZ.out OV6.out h1 ZV6.out
                      show Made _ _ _ _ _ _ _ _ _ _
                      rw [← NSUM.out]; exact this
                    have q0 := (MV7.out.1.cell (p := ⟨w.heap.size, 0, none⟩) lN).trans c0
                    have q1 := (MV7.out.1.cell (p := ⟨w.heap.size, 1, none⟩) lN).trans c1
                    have q2 := (MV7.out.1.cell (p := ⟨w.heap.size, 2, none⟩) lN).trans c2
                    have q3 := (MV7.out.1.cell (p := ⟨w.heap.size, 3, none⟩) lN).trans c3
                    refine hK.out _ _ ⟨q0, q1, q2, q3⟩ (fun hHeld => ?_)
                    clear hK K q0 q1 q2 q3
                    try simp only [Act.put, List.setIfInBounds_toArray, List.set_cons_zero, List.set_cons_succ]
                    refine wpAnyH_done (by kernel_rfl) ?_ _
                    refine NoPanic.normal ?_
                    go_wp2_with fail
                    go_meet
                    exact ⟨_, _, _, rfl, MV7.out⟩
                  exact AllReadyH.nil
                exact AllReadyH.nil
              refine AllReadyH.cons (by simp only [List.getElem?_toArray, List.getElem?_cons_zero, List.getElem?_cons_succ]; rfl) (fun K hK => ?_) ?_
              · go_simp
                have BV8 : Hid (Below W.heap.size W (V4.alloc (.cells #[.int .i64 0, .int .i64 0, .int .i64 0, .slice none 0 0] 26))) := BV4.out.alloc BV4.out.size _
                have OV8 := Lib.hid (OV4.out.alloc (.cells #[.int .i64 0, .int .i64 0, .int .i64 0, .slice none 0 0] 26))
                have QV8 := Lib.hid (QV4.out.alloc (.cells #[.int .i64 0, .int .i64 0, .int .i64 0, .slice none 0 0] 26))
                have FV8 := FV4
                obtain ⟨gz, hgz⟩ : ∃ g, g = V4.heap.size := ⟨_, rfl⟩
                have ZV8 : Hid (NB (V4.alloc (.cells #[.int .i64 0, .int .i64 0, .int .i64 0, .slice none 0 0] 26)) gz 0 0 0 (.slice none 0 0)) := by rw [hgz]; exact NB.new V4 0 0 0 _
                have GZ : Hid (W.heap.size ≤ gz) := by rw [hgz]; exact BV4.out.size
                rw [← hgz]
                have q0 := (BV8.out.cell (p := ⟨w.heap.size, 0, none⟩) lN).trans c0
                have q1 := (BV8.out.cell (p := ⟨w.heap.size, 1, none⟩) lN).trans c1
                have q2 := (BV8.out.cell (p := ⟨w.heap.size, 2, none⟩) lN).trans c2
                have q3 := (BV8.out.cell (p := ⟨w.heap.size, 3, none⟩) lN).trans c3
                refine hK.out _ _ ⟨q0, q1, q2, q3⟩ (fun hHeld => ?_)
                clear hK K q0 q1 q2 q3 hgz
                try simp only [Act.put, List.setIfInBounds_toArray, List.set_cons_zero, List.set_cons_succ]
                generalize V4.alloc (.cells #[.int .i64 0, .int .i64 0, .int .i64 0, .slice none 0 0] 26) = V8 at hHeld BV8 OV8 QV8 ZV8 ⊢
                refine wpAnyH_ready (rs := [15]) (by kernel_rfl) (by simp) ?_
                refine AllReadyH.cons (by simp only [List.getElem?_toArray, List.getElem?_cons_zero, List.getElem?_cons_succ]; rfl) (fun K hK => ?_) ?_
                · refine step_lay rfl _ _ rfl W.heap.size (.slice A2 (k + 1) kA2) (k + 1) (ls.take k ++ [sqLy]) rfl OV8.out AR nR cR (ls.drop k) rfl (DR.out _ (HX.out.below (chain BW.out BV8.out))) LDK.out (by omega) BV8.out.size ?_
                  intro A3 kA3 V9 hown hgrow hblk
                  have BV9 : Hid (Below W.heap.size W V9) := BV8.out.grown hgrow BV8.out.size (fun q hk => (OV8.out.lt q hk).1)
                  have OV9 := Lib.hid hown
                  have ZV9 := Lib.hid (nb_grow hgrow OV8.out ZV8.out)
                  have QV9 := Lib.hid (qb_far hgrow QV8.out FV8.out)
                  have FV9 := Lib.hid (far_next FV8.out hblk QV8.out.lt)
                  have q0 := (BV9.out.cell (p := ⟨w.heap.size, 0, none⟩) lN).trans c0
                  have q1 := (BV9.out.cell (p := ⟨w.heap.size, 1, none⟩) lN).trans c1
                  have q2 := (BV9.out.cell (p := ⟨w.heap.size, 2, none⟩) lN).trans c2
                  have q3 := (BV9.out.cell (p := ⟨w.heap.size, 3, none⟩) lN).trans c3
                  refine hK.out _ _ ⟨q0, q1, q2, q3⟩ (fun hHeld => ?_)
                  clear hK K q0 q1 q2 q3 hown hgrow hblk
                  try simp only [Act.put, List.setIfInBounds_toArray, List.set_cons_zero, List.set_cons_succ]
                  refine wpAnyH_take (i := 16) (v := ?vv13) (by simp only [List.getElem?_toArray, List.getElem?_cons_zero, List.getElem?_cons_succ]; rfl) (by kernel_rfl) (by kernel_rfl) (by kernel_rfl) (fun _ _ _ h => h) (Or.inl ⟨by rfl, ?yy13⟩) (by assumption) ?rr13
                  case yy13 => (intro w hSw; (try dsimp only at hSw); go_simp; first | done | with_reducible rfl)
                  simp only [Act.put, List.setIfInBounds_toArray, List.set_cons_zero, List.set_cons_succ]
                  refine wpAnyH_ready (rs := [18]) (by kernel_rfl) (by simp) ?_
                  refine AllReadyH.cons (by simp only [List.getElem?_toArray, List.getElem?_cons_zero, List.getElem?_cons_succ]; rfl) (fun K hK => ?_) ?_
                  · obtain ⟨z0, z1, z2, z3⟩ := ZV9.out.cells
                    have f0 : V9.frozen? ⟨gz, 0, none⟩ = false := Lib.frozen_of_heap ZV9.out 0
                    have f1 : V9.frozen? ⟨gz, 1, none⟩ = false := Lib.frozen_of_heap ZV9.out 1
                    have f2 : V9.frozen? ⟨gz, 2, none⟩ = false := Lib.frozen_of_heap ZV9.out 2
                    have f3 : V9.frozen? ⟨gz, 3, none⟩ = false := Lib.frozen_of_heap ZV9.out 3
                    go_simp
                    have MV10 : Hid (Made W ((((V9.setCell ⟨gz, 0, none⟩ (.int .i64 c)).setCell ⟨gz, 1, none⟩ (.int .i64 h)).setCell ⟨gz, 2, none⟩ (.int .i64 x)).setCell ⟨gz, 3, none⟩ (.slice A3 (k + 1 + nR) kA3)) gz c h x A3 (n + 1) kA3 (ls.take k ++ [sqLy] ++ ls.drop k)) := by
                      have h1 : k + 1 + nR = (ls.take k ++ [sqLy] ++ ls.drop k).length := by rw [List.length_append, List.length_append, ← LTK.out, ← LDK.out]; rfl
                      have := made_set (c := c) (h := h) (x := x) BV9.out GZ.out OV9.out h1 ZV9.out
                      show Made _ _ _ _ _ _ _ _ _ _
                      rw [← NSUM.out]; exact this
                    have q0 := (MV10.out.1.cell (p := ⟨w.heap.size, 0, none⟩) lN).trans c0
                    have q1 := (MV10.out.1.cell (p := ⟨w.heap.size, 1, none⟩) lN).trans c1
                    have q2 := (MV10.out.1.cell (p := ⟨w.heap.size, 2, none⟩) lN).trans c2
                    have q3 := (MV10.out.1.cell (p := ⟨w.heap.size, 3, none⟩) lN).trans c3
                    refine hK.out _ _ ⟨q0, q1, q2, q3⟩ (fun hHeld => ?_)
                    clear hK K q0 q1 q2 q3
                    try simp only [Act.put, List.setIfInBounds_toArray, List.set_cons_zero, List.set_cons_succ]
                    refine wpAnyH_done (by kernel_rfl) ?_ _
                    refine NoPanic.normal ?_
                    go_wp2_with fail
                    go_meet
                    exact ⟨_, _, _, rfl, MV10.out⟩
                  exact AllReadyH.nil
                exact AllReadyH.nil
              exact AllReadyH.nil
            refine AllReadyH.cons (by simp only [List.getElem?_toArray, List.getElem?_cons_zero, List.getElem?_cons_succ]; rfl) (fun K hK => ?_) ?_
            · go_simp
              have BV11 : Hid (Below W.heap.size W (V3.alloc (.cells #[.int .i64 0, .int .i64 0, .int .i64 0, .slice none 0 0] 26))) := BV3.out.alloc BV3.out.size _
              have OV11 := Lib.hid (OV3.out.alloc (.cells #[.int .i64 0, .int .i64 0, .int .i64 0, .slice none 0 0] 26))
              have QV11 := Lib.hid (QV3.out.alloc (.cells #[.int .i64 0, .int .i64 0, .int .i64 0, .slice none 0 0] 26))
              have FV11 := FV3
              obtain ⟨gz, hgz⟩ : ∃ g, g = V3.heap.size := ⟨_, rfl⟩
              have ZV11 : Hid (NB (V3.alloc (.cells #[.int .i64 0, .int .i64 0, .int .i64 0, .slice none 0 0] 26)) gz 0 0 0 (.slice none 0 0)) := by rw [hgz]; exact NB.new V3 0 0 0 _
              have GZ : Hid (W.heap.size ≤ gz) := by rw [hgz]; exact BV3.out.size
              rw [← hgz]
              have q0 := (BV11.out.cell (p := ⟨w.heap.size, 0, none⟩) lN).trans c0
              have q1 := (BV11.out.cell (p := ⟨w.heap.size, 1, none⟩) lN).trans c1
              have q2 := (BV11.out.cell (p := ⟨w.heap.size, 2, none⟩) lN).trans c2
              have q3 := (BV11.out.cell (p := ⟨w.heap.size, 3, none⟩) lN).trans c3
              refine hK.out _ _ ⟨q0, q1, q2, q3⟩ (fun hHeld => ?_)
              clear hK K q0 q1 q2 q3 hgz
              try simp only [Act.put, List.setIfInBounds_toArray, List.set_cons_zero, List.set_cons_succ]
              generalize V3.alloc (.cells #[.int .i64 0, .int .i64 0, .int .i64 0, .slice none 0 0] 26) = V11 at hHeld BV11 OV11 QV11 ZV11 ⊢
              refine wpAnyH_ready (rs := [10]) (by kernel_rfl) (by simp) ?_
              refine AllReadyH.cons (by simp only [List.getElem?_toArray, List.getElem?_cons_zero, List.getElem?_cons_succ]; rfl) (fun K hK => ?_) ?_
              · refine step_lay rfl _ _ rfl W.heap.size (.slice A1 k kA1) k (ls.take k) rfl OV11.out (some ⟨gq, 0, none⟩) 1 1 [sqLy] rfl (rl_q QV11.out) rfl (by omega) BV11.out.size ?_
                intro A2 kA2 V12 hown hgrow hblk
                have BV12 : Hid (Below W.heap.size W V12) := BV11.out.grown hgrow BV11.out.size (fun q hk => (OV11.out.lt q hk).1)
                have OV12 := Lib.hid hown
                have ZV12 := Lib.hid (nb_grow hgrow OV11.out ZV11.out)
                have QV12 := Lib.hid (qb_far hgrow QV11.out FV11.out)
                have FV12 := Lib.hid (far_next FV11.out hblk QV11.out.lt)
                have q0 := (BV12.out.cell (p := ⟨w.heap.size, 0, none⟩) lN).trans c0
                have q1 := (BV12.out.cell (p := ⟨w.heap.size, 1, none⟩) lN).trans c1
                have q2 := (BV12.out.cell (p := ⟨w.heap.size, 2, none⟩) lN).trans c2
                have q3 := (BV12.out.cell (p := ⟨w.heap.size, 3, none⟩) lN).trans c3
                refine hK.out _ _ ⟨q0, q1, q2, q3⟩ (fun hHeld => ?_)
                clear hK K q0 q1 q2 q3 hown hgrow hblk
                try simp only [Act.put, List.setIfInBounds_toArray, List.set_cons_zero, List.set_cons_succ]
                refine wpAnyH_ready (rs := [15]) (by kernel_rfl) (by simp) ?_
                refine AllReadyH.cons (by simp only [List.getElem?_toArray, List.getElem?_cons_zero, List.getElem?_cons_succ]; rfl) (fun K hK => ?_) ?_
                · refine step_lay rfl _ _ rfl W.heap.size (.slice A2 (k + 1) kA2) (k + 1) (ls.take k ++ [sqLy]) rfl OV12.out AR nR cR (ls.drop k) rfl (DR.out _ (HX.out.below (chain BW.out BV12.out))) LDK.out (by omega) BV12.out.size ?_
                  intro A3 kA3 V13 hown hgrow hblk
                  have BV13 : Hid (Below W.heap.size W V13) := BV12.out.grown hgrow BV12.out.size (fun q hk => (OV12.out.lt q hk).1)
                  have OV13 := Lib.hid hown
                  have ZV13 := Lib.hid (nb_grow hgrow OV12.out ZV12.out)
                  have QV13 := Lib.hid (qb_far hgrow QV12.out FV12.out)
                  have FV13 := Lib.hid (far_next FV12.out hblk QV12.out.lt)
                  have q0 := (BV13.out.cell (p := ⟨w.heap.size, 0, none⟩) lN).trans c0
                  have q1 := (BV13.out.cell (p := ⟨w.heap.size, 1, none⟩) lN).trans c1
                  have q2 := (BV13.out.cell (p := ⟨w.heap.size, 2, none⟩) lN).trans c2
                  have q3 := (BV13.out.cell (p := ⟨w.heap.size, 3, none⟩) lN).trans c3
                  refine hK.out _ _ ⟨q0, q1, q2, q3⟩ (fun hHeld => ?_)
                  clear hK K q0 q1 q2 q3 hown hgrow hblk
                  try simp only [Act.put, List.setIfInBounds_toArray, List.set_cons_zero, List.set_cons_succ]
                  refine wpAnyH_take (i := 16) (v := ?vv14) (by simp only [List.getElem?_toArray, List.getElem?_cons_zero, List.getElem?_cons_succ]; rfl) (by kernel_rfl) (by kernel_rfl) (by kernel_rfl) (fun _ _ _ h => h) (Or.inl ⟨by rfl, ?yy14⟩) (by assumption) ?rr14
                  case yy14 => (intro w hSw; (try dsimp only at hSw); go_simp; first | done | with_reducible rfl)
                  simp only [Act.put, List.setIfInBounds_toArray, List.set_cons_zero, List.set_cons_succ]
                  refine wpAnyH_ready (rs := [18]) (by kernel_rfl) (by simp) ?_
                  refine AllReadyH.cons (by simp only [List.getElem?_toArray, List.getElem?_cons_zero, List.getElem?_cons_succ]; rfl) (fun K hK => ?_) ?_
                  · obtain ⟨z0, z1, z2, z3⟩ := ZV13.out.cells
                    have f0 : V13.frozen? ⟨gz, 0, none⟩ = false := Lib.frozen_of_heap ZV13.out 0
                    have f1 : V13.frozen? ⟨gz, 1, none⟩ = false := Lib.frozen_of_heap ZV13.out 1
                    have f2 : V13.frozen? ⟨gz, 2, none⟩ = false := Lib.frozen_of_heap ZV13.out 2
                    have f3 : V13.frozen? ⟨gz, 3, none⟩ = false := Lib.frozen_of_heap ZV13.out 3
                    go_simp
                    have MV14 : Hid (Made W ((((V13.setCell ⟨gz, 0, none⟩ (.int .i64 c)).setCell ⟨gz, 1, none⟩ (.int .i64 h)).setCell ⟨gz, 2, none⟩ (.int .i64 x)).setCell ⟨gz, 3, none⟩ (.slice A3 (k + 1 + nR) kA3)) gz c h x A3 (n + 1) kA3 (ls.take k ++ [sqLy] ++ ls.drop k)) := by
                      have h1 : k + 1 + nR = (ls.take k ++ [sqLy] ++ ls.drop k).length := by rw [List.length_append, List.length_append, ← LTK.out, ← LDK.out]; rfl
                      have := made_set (c := c) (h := h) (x := x) BV13.out GZ.out OV13.out h1 ZV13.out
                      show Made _ _ _ _ _ _ _ _ _ _
                      rw [← NSUM.out]; exact this
                    have q0 := (MV14.out.1.cell (p := ⟨w.heap.size, 0, none⟩) lN).trans c0
                    have q1 := (MV14.out.1.cell (p := ⟨w.heap.size, 1, none⟩) lN).trans c1
                    have q2 := (MV14.out.1.cell (p := ⟨w.heap.size, 2, none⟩) lN).trans c2
                    have q3 := (MV14.out.1.cell (p := ⟨w.heap.size, 3, none⟩) lN).trans c3
                    refine hK.out _ _ ⟨q0, q1, q2, q3⟩ (fun hHeld => ?_)
                    clear hK K q0 q1 q2 q3
                    try simp only [Act.put, List.setIfInBounds_toArray, List.set_cons_zero, List.set_cons_succ]
                    refine wpAnyH_done (by kernel_rfl) ?_ _
                    refine NoPanic.normal ?_
                    go_wp2_with fail
                    go_meet
                    exact ⟨_, _, _, rfl, MV14.out⟩
                  exact AllReadyH.nil
                exact AllReadyH.nil
              exact AllReadyH.nil
            exact AllReadyH.nil
          refine AllReadyH.cons (by simp only [List.getElem?_toArray, List.getElem?_cons_zero, List.getElem?_cons_succ]; rfl) (fun K hK => ?_) ?_
          · go_simp
            have BV15 : Hid (Below W.heap.size W (V2.alloc (.cells #[.int .i64 0, .int .i64 0, .int .i64 0, .slice none 0 0] 26))) := BV2.out.alloc BV2.out.size _
            have OV15 := Lib.hid (OV2.out.alloc (.cells #[.int .i64 0, .int .i64 0, .int .i64 0, .slice none 0 0] 26))
            obtain ⟨gz, hgz⟩ : ∃ g, g = V2.heap.size := ⟨_, rfl⟩
            have ZV15 : Hid (NB (V2.alloc (.cells #[.int .i64 0, .int .i64 0, .int .i64 0, .slice none 0 0] 26)) gz 0 0 0 (.slice none 0 0)) := by rw [hgz]; exact NB.new V2 0 0 0 _
            have GZ : Hid (W.heap.size ≤ gz) := by rw [hgz]; exact BV2.out.size
            rw [← hgz]
            have q0 := (BV15.out.cell (p := ⟨w.heap.size, 0, none⟩) lN).trans c0
            have q1 := (BV15.out.cell (p := ⟨w.heap.size, 1, none⟩) lN).trans c1
            have q2 := (BV15.out.cell (p := ⟨w.heap.size, 2, none⟩) lN).trans c2
            have q3 := (BV15.out.cell (p := ⟨w.heap.size, 3, none⟩) lN).trans c3
            refine hK.out _ _ ⟨q0, q1, q2, q3⟩ (fun hHeld => ?_)
            clear hK K q0 q1 q2 q3 hgz
            try simp only [Act.put, List.setIfInBounds_toArray, List.set_cons_zero, List.set_cons_succ]
            generalize V2.alloc (.cells #[.int .i64 0, .int .i64 0, .int .i64 0, .slice none 0 0] 26) = V15 at hHeld BV15 OV15 ZV15 ⊢
            refine wpAnyH_ready (rs := [9]) (by kernel_rfl) (by simp) ?_
            refine AllReadyH.cons (by simp only [List.getElem?_toArray, List.getElem?_cons_zero, List.getElem?_cons_succ]; rfl) (fun K hK => ?_) ?_
            · go_simp
              have BV16 : Hid (Below W.heap.size W (V15.alloc (.cells #[.int .i64 2, .int .i64 0, .int .i64 0, .int .i64 0] 40))) := BV15.out.alloc BV15.out.size _
              have OV16 := Lib.hid (OV15.out.alloc (.cells #[.int .i64 2, .int .i64 0, .int .i64 0, .int .i64 0] 40))
              have ZV16 := Lib.hid (ZV15.out.alloc (.cells #[.int .i64 2, .int .i64 0, .int .i64 0, .int .i64 0] 40))
              obtain ⟨gq, hgq⟩ : ∃ g, g = V15.heap.size := ⟨_, rfl⟩
              have QV16 : Hid (QB (V15.alloc (.cells #[.int .i64 2, .int .i64 0, .int .i64 0, .int .i64 0] 40)) gq sqLy) := by rw [hgq]; exact qb_new V15 2 0 0 0
              have FV16 : Hid ((Value.slice A1 k kA1).ownBlock ≠ some gq) := fun e => by have := (OV15.out.lt _ e).2; omega
              rw [← hgq]
              have q0 := (BV16.out.cell (p := ⟨w.heap.size, 0, none⟩) lN).trans c0
              have q1 := (BV16.out.cell (p := ⟨w.heap.size, 1, none⟩) lN).trans c1
              have q2 := (BV16.out.cell (p := ⟨w.heap.size, 2, none⟩) lN).trans c2
              have q3 := (BV16.out.cell (p := ⟨w.heap.size, 3, none⟩) lN).trans c3
              refine hK.out _ _ ⟨q0, q1, q2, q3⟩ (fun hHeld => ?_)
              clear hK K q0 q1 q2 q3 hgq
              try simp only [Act.put, List.setIfInBounds_toArray, List.set_cons_zero, List.set_cons_succ]
              generalize V15.alloc (.cells #[.int .i64 2, .int .i64 0, .int .i64 0, .int .i64 0] 40) = V16 at hHeld BV16 OV16 ZV16 QV16 ⊢
              refine wpAnyH_ready (rs := [10]) (by kernel_rfl) (by simp) ?_
              refine AllReadyH.cons (by simp only [List.getElem?_toArray, List.getElem?_cons_zero, List.getElem?_cons_succ]; rfl) (fun K hK => ?_) ?_
              · refine step_lay rfl _ _ rfl W.heap.size (.slice A1 k kA1) k (ls.take k) rfl OV16.out (some ⟨gq, 0, none⟩) 1 1 [sqLy] rfl (rl_q QV16.out) rfl (by omega) BV16.out.size ?_
                intro A2 kA2 V17 hown hgrow hblk
                have BV17 : Hid (Below W.heap.size W V17) := BV16.out.grown hgrow BV16.out.size (fun q hk => (OV16.out.lt q hk).1)
                have OV17 := Lib.hid hown
                have ZV17 := Lib.hid (nb_grow hgrow OV16.out ZV16.out)
                have QV17 := Lib.hid (qb_far hgrow QV16.out FV16.out)
                have FV17 := Lib.hid (far_next FV16.out hblk QV16.out.lt)
                have q0 := (BV17.out.cell (p := ⟨w.heap.size, 0, none⟩) lN).trans c0
                have q1 := (BV17.out.cell (p := ⟨w.heap.size, 1, none⟩) lN).trans c1
                have q2 := (BV17.out.cell (p := ⟨w.heap.size, 2, none⟩) lN).trans c2
                have q3 := (BV17.out.cell (p := ⟨w.heap.size, 3, none⟩) lN).trans c3
                refine hK.out _ _ ⟨q0, q1, q2, q3⟩ (fun hHeld => ?_)
                clear hK K q0 q1 q2 q3 hown hgrow hblk
                try simp only [Act.put, List.setIfInBounds_toArray, List.set_cons_zero, List.set_cons_succ]
                refine wpAnyH_ready (rs := [15]) (by kernel_rfl) (by simp) ?_
                refine AllReadyH.cons (by simp only [List.getElem?_toArray, List.getElem?_cons_zero, List.getElem?_cons_succ]; rfl) (fun K hK => ?_) ?_
                · refine step_lay rfl _ _ rfl W.heap.size (.slice A2 (k + 1) kA2) (k + 1) (ls.take k ++ [sqLy]) rfl OV17.out AR nR cR (ls.drop k) rfl (DR.out _ (HX.out.below (chain BW.out BV17.out))) LDK.out (by omega) BV17.out.size ?_
                  intro A3 kA3 V18 hown hgrow hblk
                  have BV18 : Hid (Below W.heap.size W V18) := BV17.out.grown hgrow BV17.out.size (fun q hk => (OV17.out.lt q hk).1)
                  have OV18 := Lib.hid hown
                  have ZV18 := Lib.hid (nb_grow hgrow OV17.out ZV17.out)
                  have QV18 := Lib.hid (qb_far hgrow QV17.out FV17.out)
                  have FV18 := Lib.hid (far_next FV17.out hblk QV17.out.lt)
                  have q0 := (BV18.out.cell (p := ⟨w.heap.size, 0, none⟩) lN).trans c0
                  have q1 := (BV18.out.cell (p := ⟨w.heap.size, 1, none⟩) lN).trans c1
                  have q2 := (BV18.out.cell (p := ⟨w.heap.size, 2, none⟩) lN).trans c2
                  have q3 := (BV18.out.cell (p := ⟨w.heap.size, 3, none⟩) lN).trans c3
                  refine hK.out _ _ ⟨q0, q1, q2, q3⟩ (fun hHeld => ?_)
                  clear hK K q0 q1 q2 q3 hown hgrow hblk
                  try simp only [Act.put, List.setIfInBounds_toArray, List.set_cons_zero, List.set_cons_succ]
                  refine wpAnyH_take (i := 16) (v := ?vv15) (by simp only [List.getElem?_toArray, List.getElem?_cons_zero, List.getElem?_cons_succ]; rfl) (by kernel_rfl) (by kernel_rfl) (by kernel_rfl) (fun _ _ _ h => h) (Or.inl ⟨by rfl, ?yy15⟩) (by assumption) ?rr15
                  case yy15 => (intro w hSw; (try dsimp only at hSw); go_simp; first | done | with_reducible rfl)
                  simp only [Act.put, List.setIfInBounds_toArray, List.set_cons_zero, List.set_cons_succ]
                  refine wpAnyH_ready (rs := [18]) (by kernel_rfl) (by simp) ?_
                  refine AllReadyH.cons (by simp only [List.getElem?_toArray, List.getElem?_cons_zero, List.getElem?_cons_succ]; rfl) (fun K hK => ?_) ?_
                  · obtain ⟨z0, z1, z2, z3⟩ := ZV18.out.cells
                    have f0 : V18.frozen? ⟨gz, 0, none⟩ = false := Lib.frozen_of_heap ZV18.out 0
                    have f1 : V18.frozen? ⟨gz, 1, none⟩ = false := Lib.frozen_of_heap ZV18.out 1
                    have f2 : V18.frozen? ⟨gz, 2, none⟩ = false := Lib.frozen_of_heap ZV18.out 2
                    have f3 : V18.frozen? ⟨gz, 3, none⟩ = false := Lib.frozen_of_heap ZV18.out 3
                    go_simp
                    have MV19 : Hid (Made W ((((V18.setCell ⟨gz, 0, none⟩ (.int .i64 c)).setCell ⟨gz, 1, none⟩ (.int .i64 h)).setCell ⟨gz, 2, none⟩ (.int .i64 x)).setCell ⟨gz, 3, none⟩ (.slice A3 (k + 1 + nR) kA3)) gz c h x A3 (n + 1) kA3 (ls.take k ++ [sqLy] ++ ls.drop k)) := by
                      have h1 : k + 1 + nR = (ls.take k ++ [sqLy] ++ ls.drop k).length := by rw [List.length_append, List.length_append, ← LTK.out, ← LDK.out]; rfl
                      have := made_set (c := c) (h := h) (x := x) BV18.out GZ.out OV18.out h1 ZV18.out
                      show Made _ _ _ _ _ _ _ _ _ _
                      rw [← NSUM.out]; exact this
                    have q0 := (MV19.out.1.cell (p := ⟨w.heap.size, 0, none⟩) lN).trans c0
                    have q1 := (MV19.out.1.cell (p := ⟨w.heap.size, 1, none⟩) lN).trans c1
                    have q2 := (MV19.out.1.cell (p := ⟨w.heap.size, 2, none⟩) lN).trans c2
                    have q3 := (MV19.out.1.cell (p := ⟨w.heap.size, 3, none⟩) lN).trans c3
                    refine hK.out _ _ ⟨q0, q1, q2, q3⟩ (fun hHeld => ?_)
                    clear hK K q0 q1 q2 q3
                    try simp only [Act.put, List.setIfInBounds_toArray, List.set_cons_zero, List.set_cons_succ]
                    refine wpAnyH_done (by kernel_rfl) ?_ _
                    refine NoPanic.normal ?_
                    go_wp2_with fail
                    go_meet
                    exact ⟨_, _, _, rfl, MV19.out⟩
                  exact AllReadyH.nil
                exact AllReadyH.nil
              exact AllReadyH.nil
            exact AllReadyH.nil
          exact AllReadyH.nil
        refine AllReadyH.cons (by simp only [List.getElem?_toArray, List.getElem?_cons_zero, List.getElem?_cons_succ]; rfl) (fun K hK => ?_) ?_
        · go_simp
          have BV20 : Hid (Below W.heap.size W (V1.alloc (.cells #[.int .i64 2, .int .i64 0, .int .i64 0, .int .i64 0] 40))) := BV1.out.alloc BV1.out.size _
          have OV20 := Lib.hid (OV1.out.alloc (.cells #[.int .i64 2, .int .i64 0, .int .i64 0, .int .i64 0] 40))
          obtain ⟨gq, hgq⟩ : ∃ g, g = V1.heap.size := ⟨_, rfl⟩
          have QV20 : Hid (QB (V1.alloc (.cells #[.int .i64 2, .int .i64 0, .int .i64 0, .int .i64 0] 40)) gq sqLy) := by rw [hgq]; exact qb_new V1 2 0 0 0
          have FV20 : Hid ((Value.slice (some ⟨geV1, 0, none⟩) 0 0).ownBlock ≠ some gq) := fun e => by have := (OV1.out.lt _ e).2; omega
          rw [← hgq]
          have q0 := (BV20.out.cell (p := ⟨w.heap.size, 0, none⟩) lN).trans c0
          have q1 := (BV20.out.cell (p := ⟨w.heap.size, 1, none⟩) lN).trans c1
          have q2 := (BV20.out.cell (p := ⟨w.heap.size, 2, none⟩) lN).trans c2
          have q3 := (BV20.out.cell (p := ⟨w.heap.size, 3, none⟩) lN).trans c3
          refine hK.out _ _ ⟨q0, q1, q2, q3⟩ (fun hHeld => ?_)
          clear hK K q0 q1 q2 q3 hgq
          try simp only [Act.put, List.setIfInBounds_toArray, List.set_cons_zero, List.set_cons_succ]
          generalize V1.alloc (.cells #[.int .i64 2, .int .i64 0, .int .i64 0, .int .i64 0] 40) = V20 at hHeld BV20 OV20 QV20 ⊢
          refine wpAnyH_ready (rs := [7, 17]) (by kernel_rfl) (by simp) ?_
          refine AllReadyH.cons (by simp only [List.getElem?_toArray, List.getElem?_cons_zero, List.getElem?_cons_succ]; rfl) (fun K hK => ?_) ?_
          · refine step_layE rfl _ _ rfl W.heap.size (.slice (some ⟨geV1, 0, none⟩) 0 0) rfl OV20.out A k cA (ls.take k) rfl (sq_take (HX.out.below (chain BW.out BV20.out)) k) LTK.out (by omega) BV20.out.size ?_
            intro A1 kA1 V21 hown hgrow hblk
            have BV21 : Hid (Below W.heap.size W V21) := BV20.out.grown hgrow BV20.out.size (fun q hk => (OV20.out.lt q hk).1)
            have OV21 := Lib.hid hown
            have QV21 := Lib.hid (qb_far hgrow QV20.out FV20.out)
            have FV21 := Lib.hid (far_next FV20.out hblk QV20.out.lt)
            have q0 := (BV21.out.cell (p := ⟨w.heap.size, 0, none⟩) lN).trans c0
            have q1 := (BV21.out.cell (p := ⟨w.heap.size, 1, none⟩) lN).trans c1
            have q2 := (BV21.out.cell (p := ⟨w.heap.size, 2, none⟩) lN).trans c2
            have q3 := (BV21.out.cell (p := ⟨w.heap.size, 3, none⟩) lN).trans c3
            refine hK.out _ _ ⟨q0, q1, q2, q3⟩ (fun hHeld => ?_)
            clear hK K q0 q1 q2 q3 hown hgrow hblk
            try simp only [Act.put, List.setIfInBounds_toArray, List.set_cons_zero, List.set_cons_succ]
            refine wpAnyH_ready (rs := [10, 17]) (by kernel_rfl) (by simp) ?_
            refine AllReadyH.cons (by simp only [List.getElem?_toArray, List.getElem?_cons_zero, List.getElem?_cons_succ]; rfl) (fun K hK => ?_) ?_
            · refine step_lay rfl _ _ rfl W.heap.size (.slice A1 k kA1) k (ls.take k) rfl OV21.out (some ⟨gq, 0, none⟩) 1 1 [sqLy] rfl (rl_q QV21.out) rfl (by omega) BV21.out.size ?_
              intro A2 kA2 V22 hown hgrow hblk
              have BV22 : Hid (Below W.heap.size W V22) := BV21.out.grown hgrow BV21.out.size (fun q hk => (OV21.out.lt q hk).1)
              have OV22 := Lib.hid hown
              have QV22 := Lib.hid (qb_far hgrow QV21.out FV21.out)
              have FV22 := Lib.hid (far_next FV21.out hblk QV21.out.lt)
              have q0 := (BV22.out.cell (p := ⟨w.heap.size, 0, none⟩) lN).trans c0
              have q1 := (BV22.out.cell (p := ⟨w.heap.size, 1, none⟩) lN).trans c1
              have q2 := (BV22.out.cell (p := ⟨w.heap.size, 2, none⟩) lN).trans c2
              have q3 := (BV22.out.cell (p := ⟨w.heap.size, 3, none⟩) lN).trans c3
              refine hK.out _ _ ⟨q0, q1, q2, q3⟩ (fun hHeld => ?_)
              clear hK K q0 q1 q2 q3 hown hgrow hblk
              try simp only [Act.put, List.setIfInBounds_toArray, List.set_cons_zero, List.set_cons_succ]
              refine wpAnyH_ready (rs := [15, 17]) (by kernel_rfl) (by simp) ?_
              refine AllReadyH.cons (by simp only [List.getElem?_toArray, List.getElem?_cons_zero, List.getElem?_cons_succ]; rfl) (fun K hK => ?_) ?_
              · refine step_lay rfl _ _ rfl W.heap.size (.slice A2 (k + 1) kA2) (k + 1) (ls.take k ++ [sqLy]) rfl OV22.out AR nR cR (ls.drop k) rfl (DR.out _ (HX.out.below (chain BW.out BV22.out))) LDK.out (by omega) BV22.out.size ?_
                intro A3 kA3 V23 hown hgrow hblk
                have BV23 : Hid (Below W.heap.size W V23) := BV22.out.grown hgrow BV22.out.size (fun q hk => (OV22.out.lt q hk).1)
                have OV23 := Lib.hid hown
                have QV23 := Lib.hid (qb_far hgrow QV22.out FV22.out)
                have FV23 := Lib.hid (far_next FV22.out hblk QV22.out.lt)
                have q0 := (BV23.out.cell (p := ⟨w.heap.size, 0, none⟩) lN).trans c0
                have q1 := (BV23.out.cell (p := ⟨w.heap.size, 1, none⟩) lN).trans c1
                have q2 := (BV23.out.cell (p := ⟨w.heap.size, 2, none⟩) lN).trans c2
                have q3 := (BV23.out.cell (p := ⟨w.heap.size, 3, none⟩) lN).trans c3
                refine hK.out _ _ ⟨q0, q1, q2, q3⟩ (fun hHeld => ?_)
                clear hK K q0 q1 q2 q3 hown hgrow hblk
                try simp only [Act.put, List.setIfInBounds_toArray, List.set_cons_zero, List.set_cons_succ]
                refine wpAnyH_take (i := 16) (v := ?vv16) (by simp only [List.getElem?_toArray, List.getElem?_cons_zero, List.getElem?_cons_succ]; rfl) (by kernel_rfl) (by kernel_rfl) (by kernel_rfl) (fun _ _ _ h => h) (Or.inl ⟨by rfl, ?yy16⟩) (by assumption) ?rr16
                case yy16 => (intro w hSw; (try dsimp only at hSw); go_simp; first | done | with_reducible rfl)
                simp only [Act.put, List.setIfInBounds_toArray, List.set_cons_zero, List.set_cons_succ]
                refine wpAnyH_ready (rs := [17]) (by kernel_rfl) (by simp) ?_
                refine AllReadyH.cons (by simp only [List.getElem?_toArray, List.getElem?_cons_zero, List.getElem?_cons_succ]; rfl) (fun K hK => ?_) ?_
                · go_simp
                  have BV24 : Hid (Below W.heap.size W (V23.alloc (.cells #[.int .i64 0, .int .i64 0, .int .i64 0, .slice none 0 0] 26))) := BV23.out.alloc BV23.out.size _
                  have OV24 := Lib.hid (OV23.out.alloc (.cells #[.int .i64 0, .int .i64 0, .int .i64 0, .slice none 0 0] 26))
                  have QV24 := Lib.hid (QV23.out.alloc (.cells #[.int .i64 0, .int .i64 0, .int .i64 0, .slice none 0 0] 26))
                  have FV24 := FV23
                  obtain ⟨gz, hgz⟩ : ∃ g, g = V23.heap.size := ⟨_, rfl⟩
                  have ZV24 : Hid (NB (V23.alloc (.cells #[.int .i64 0, .int .i64 0, .int .i64 0, .slice none 0 0] 26)) gz 0 0 0 (.slice none 0 0)) := by rw [hgz]; exact NB.new V23 0 0 0 _
                  have GZ : Hid (W.heap.size ≤ gz) := by rw [hgz]; exact BV23.out.size
                  rw [← hgz]
                  have q0 := (BV24.out.cell (p := ⟨w.heap.size, 0, none⟩) lN).trans c0
                  have q1 := (BV24.out.cell (p := ⟨w.heap.size, 1, none⟩) lN).trans c1
                  have q2 := (BV24.out.cell (p := ⟨w.heap.size, 2, none⟩) lN).trans c2
                  have q3 := (BV24.out.cell (p := ⟨w.heap.size, 3, none⟩) lN).trans c3
                  refine hK.out _ _ ⟨q0, q1, q2, q3⟩ (fun hHeld => ?_)
                  clear hK K q0 q1 q2 q3 hgz
                  try simp only [Act.put, List.setIfInBounds_toArray, List.set_cons_zero, List.set_cons_succ]
                  generalize V23.alloc (.cells #[.int .i64 0, .int .i64 0, .int .i64 0, .slice none 0 0] 26) = V24 at hHeld BV24 OV24 QV24 ZV24 ⊢
                  refine wpAnyH_ready (rs := [18]) (by kernel_rfl) (by simp) ?_
                  refine AllReadyH.cons (by simp only [List.getElem?_toArray, List.getElem?_cons_zero, List.getElem?_cons_succ]; rfl) (fun K hK => ?_) ?_
                  · obtain ⟨z0, z1, z2, z3⟩ := ZV24.out.cells
                    have f0 : V24.frozen? ⟨gz, 0, none⟩ = false := Lib.frozen_of_heap ZV24.out 0
                    have f1 : V24.frozen? ⟨gz, 1, none⟩ = false := Lib.frozen_of_heap ZV24.out 1
                    have f2 : V24.frozen? ⟨gz, 2, none⟩ = false := Lib.frozen_of_heap ZV24.out 2
                    have f3 : V24.frozen? ⟨gz, 3, none⟩ = false := Lib.frozen_of_heap ZV24.out 3
                    go_simp
                    have MV25 : Hid (Made W ((((V24.setCell ⟨gz, 0, none⟩ (.int .i64 c)).setCell ⟨gz, 1, none⟩ (.int .i64 h)).setCell ⟨gz, 2, none⟩ (.int .i64 x)).setCell ⟨gz, 3, none⟩ (.slice A3 (k + 1 + nR) kA3)) gz c h x A3 (n + 1) kA3 (ls.take k ++ [sqLy] ++ ls.drop k)) := by
                      have h1 : k + 1 + nR = (ls.take k ++ [sqLy] ++ ls.drop k).length := by rw [List.length_append, List.length_append, ← LTK.out, ← LDK.out]; rfl
                      have := made_set (c := c) (h := h) (x := x) BV24.out GZ.out OV24.out h1 ZV24.out
                      show Made _ _ _ _ _ _ _ _ _ _
                      rw [← NSUM.out]; exact this
                    have q0 := (MV25.out.1.cell (p := ⟨w.heap.size, 0, none⟩) lN).trans c0
                    have q1 := (MV25.out.1.cell (p := ⟨w.heap.size, 1, none⟩) lN).trans c1
                    have q2 := (MV25.out.1.cell (p := ⟨w.heap.size, 2, none⟩) lN).trans c2
                    have q3 := (MV25.out.1.cell (p := ⟨w.heap.size, 3, none⟩) lN).trans c3
                    refine hK.out _ _ ⟨q0, q1, q2, q3⟩ (fun hHeld => ?_)
                    clear hK K q0 q1 q2 q3
                    try simp only [Act.put, List.setIfInBounds_toArray, List.set_cons_zero, List.set_cons_succ]
                    refine wpAnyH_done (by kernel_rfl) ?_ _
                    refine NoPanic.normal ?_
                    go_wp2_with fail
                    go_meet
                    exact ⟨_, _, _, rfl, MV25.out⟩
                  exact AllReadyH.nil
                exact AllReadyH.nil
              refine AllReadyH.cons (by simp only [List.getElem?_toArray, List.getElem?_cons_zero, List.getElem?_cons_succ]; rfl) (fun K hK => ?_) ?_
              · go_simp
                have BV26 : Hid (Below W.heap.size W (V22.alloc (.cells #[.int .i64 0, .int .i64 0, .int .i64 0, .slice none 0 0] 26))) := BV22.out.alloc BV22.out.size _
                have OV26 := Lib.hid (OV22.out.alloc (.cells #[.int .i64 0, .int .i64 0, .int .i64 0, .slice none 0 0] 26))
                have QV26 := Lib.hid (QV22.out.alloc (.cells #[.int .i64 0, .int .i64 0, .int .i64 0, .slice none 0 0] 26))
                have FV26 := FV22
                obtain ⟨gz, hgz⟩ : ∃ g, g = V22.heap.size := ⟨_, rfl⟩
                have ZV26 : Hid (NB (V22.alloc (.cells #[.int .i64 0, .int .i64 0, .int .i64 0, .slice none 0 0] 26)) gz 0 0 0 (.slice none 0 0)) := by rw [hgz]; exact NB.new V22 0 0 0 _
                have GZ : Hid (W.heap.size ≤ gz) := by rw [hgz]; exact BV22.out.size
                rw [← hgz]
                have q0 := (BV26.out.cell (p := ⟨w.heap.size, 0, none⟩) lN).trans c0
                have q1 := (BV26.out.cell (p := ⟨w.heap.size, 1, none⟩) lN).trans c1
                have q2 := (BV26.out.cell (p := ⟨w.heap.size, 2, none⟩) lN).trans c2
                have q3 := (BV26.out.cell (p := ⟨w.heap.size, 3, none⟩) lN).trans c3
                refine hK.out _ _ ⟨q0, q1, q2, q3⟩ (fun hHeld => ?_)
                clear hK K q0 q1 q2 q3 hgz
                try simp only [Act.put, List.setIfInBounds_toArray, List.set_cons_zero, List.set_cons_succ]
                generalize V22.alloc (.cells #[.int .i64 0, .int .i64 0, .int .i64 0, .slice none 0 0] 26) = V26 at hHeld BV26 OV26 QV26 ZV26 ⊢
                refine wpAnyH_ready (rs := [15]) (by kernel_rfl) (by simp) ?_
                refine AllReadyH.cons (by simp only [List.getElem?_toArray, List.getElem?_cons_zero, List.getElem?_cons_succ]; rfl) (fun K hK => ?_) ?_
                · refine step_lay rfl _ _ rfl W.heap.size (.slice A2 (k + 1) kA2) (k + 1) (ls.take k ++ [sqLy]) rfl OV26.out AR nR cR (ls.drop k) rfl (DR.out _ (HX.out.below (chain BW.out BV26.out))) LDK.out (by omega) BV26.out.size ?_
                  intro A3 kA3 V27 hown hgrow hblk
                  have BV27 : Hid (Below W.heap.size W V27) := BV26.out.grown hgrow BV26.out.size (fun q hk => (OV26.out.lt q hk).1)
                  have OV27 := Lib.hid hown
                  have ZV27 := Lib.hid (nb_grow hgrow OV26.out ZV26.out)
                  have QV27 := Lib.hid (qb_far hgrow QV26.out FV26.out)
                  have FV27 := Lib.hid (far_next FV26.out hblk QV26.out.lt)
                  have q0 := (BV27.out.cell (p := ⟨w.heap.size, 0, none⟩) lN).trans c0
                  have q1 := (BV27.out.cell (p := ⟨w.heap.size, 1, none⟩) lN).trans c1
                  have q2 := (BV27.out.cell (p := ⟨w.heap.size, 2, none⟩) lN).trans c2
                  have q3 := (BV27.out.cell (p := ⟨w.heap.size, 3, none⟩) lN).trans c3
                  refine hK.out _ _ ⟨q0, q1, q2, q3⟩ (fun hHeld => ?_)
                  clear hK K q0 q1 q2 q3 hown hgrow hblk
                  try simp only [Act.put, List.setIfInBounds_toArray, List.set_cons_zero, List.set_cons_succ]
                  refine wpAnyH_take (i := 16) (v := ?vv17) (by simp only [List.getElem?_toArray, List.getElem?_cons_zero, List.getElem?_cons_succ]; rfl) (by kernel_rfl) (by kernel_rfl) (by kernel_rfl) (fun _ _ _ h => h) (Or.inl ⟨by rfl, ?yy17⟩) (by assumption) ?rr17
                  case yy17 => (intro w hSw; (try dsimp only at hSw); go_simp; first | done | with_reducible rfl)
                  simp only [Act.put, List.setIfInBounds_toArray, List.set_cons_zero, List.set_cons_succ]
                  refine wpAnyH_ready (rs := [18]) (by kernel_rfl) (by simp) ?_
                  refine AllReadyH.cons (by simp only [List.getElem?_toArray, List.getElem?_cons_zero, List.getElem?_cons_succ]; rfl) (fun K hK => ?_) ?_
                  · obtain ⟨z0, z1, z2, z3⟩ := ZV27.out.cells
                    have f0 : V27.frozen? ⟨gz, 0, none⟩ = false := Lib.frozen_of_heap ZV27.out 0
                    have f1 : V27.frozen? ⟨gz, 1, none⟩ = false := Lib.frozen_of_heap ZV27.out 1
                    have f2 : V27.frozen? ⟨gz, 2, none⟩ = false := Lib.frozen_of_heap ZV27.out 2
                    have f3 : V27.frozen? ⟨gz, 3, none⟩ = false := Lib.frozen_of_heap ZV27.out 3
                    go_simp
                    have MV28 : Hid (Made W ((((V27.setCell ⟨gz, 0, none⟩ (.int .i64 c)).setCell ⟨gz, 1, none⟩ (.int .i64 h)).setCell ⟨gz, 2, none⟩ (.int .i64 x)).setCell ⟨gz, 3, none⟩ (.slice A3 (k + 1 + nR) kA3)) gz c h x A3 (n + 1) kA3 (ls.take k ++ [sqLy] ++ ls.drop k)) := by
                      have h1 : k + 1 + nR = (ls.take k ++ [sqLy] ++ ls.drop k).length := by rw [List.length_append, List.length_append, ← LTK.out, ← LDK.out]; rfl
                      have := made_set (c := c) (h := h) (x := x) BV27.out GZ.out OV27.out h1 ZV27.out
                      show Made _ _ _ _ _ _ _ _ _ _
                      rw [← NSUM.out]; exact this
                    have q0 := (MV28.out.1.cell (p := ⟨w.heap.size, 0, none⟩) lN).trans c0
                    have q1 := (MV28.out.1.cell (p := ⟨w.heap.size, 1, none⟩) lN).trans c1
                    have q2 := (MV28.out.1.cell (p := ⟨w.heap.size, 2, none⟩) lN).trans c2
                    have q3 := (MV28.out.1.cell (p := ⟨w.heap.size, 3, none⟩) lN).trans c3
                    refine hK.out _ _ ⟨q0, q1, q2, q3⟩ (fun hHeld => ?_)
                    clear hK K q0 q1 q2 q3
                    try simp only [Act.put, List.setIfInBounds_toArray, List.set_cons_zero, List.set_cons_succ]
                    refine wpAnyH_done (by kernel_rfl) ?_ _
                    refine NoPanic.normal ?_
                    go_wp2_with fail
                    go_meet
                    exact ⟨_, _, _, rfl, MV28.out⟩
                  exact AllReadyH.nil
                exact AllReadyH.nil
              exact AllReadyH.nil
            refine AllReadyH.cons (by simp only [List.getElem?_toArray, List.getElem?_cons_zero, List.getElem?_cons_succ]; rfl) (fun K hK => ?_) ?_
            · go_simp
              have BV29 : Hid (Below W.heap.size W (V21.alloc (.cells #[.int .i64 0, .int .i64 0, .int .i64 0, .slice none 0 0] 26))) := BV21.out.alloc BV21.out.size _
              have OV29 := Lib.hid (OV21.out.alloc (.cells #[.int .i64 0, .int .i64 0, .int .i64 0, .slice none 0 0] 26))
              have QV29 := Lib.hid (QV21.out.alloc (.cells #[.int .i64 0, .int .i64 0, .int .i64 0, .slice none 0 0] 26))
              have FV29 := FV21
              obtain ⟨gz, hgz⟩ : ∃ g, g = V21.heap.size := ⟨_, rfl⟩
              have ZV29 : Hid (NB (V21.alloc (.cells #[.int .i64 0, .int .i64 0, .int .i64 0, .slice none 0 0] 26)) gz 0 0 0 (.slice none 0 0)) := by rw [hgz]; exact NB.new V21 0 0 0 _
              have GZ : Hid (W.heap.size ≤ gz) := by rw [hgz]; exact BV21.out.size
              rw [← hgz]
              have q0 := (BV29.out.cell (p := ⟨w.heap.size, 0, none⟩) lN).trans c0
              have q1 := (BV29.out.cell (p := ⟨w.heap.size, 1, none⟩) lN).trans c1
              have q2 := (BV29.out.cell (p := ⟨w.heap.size, 2, none⟩) lN).trans c2
              have q3 := (BV29.out.cell (p := ⟨w.heap.size, 3, none⟩) lN).trans c3
              refine hK.out _ _ ⟨q0, q1, q2, q3⟩ (fun hHeld => ?_)
              clear hK K q0 q1 q2 q3 hgz
              try simp only [Act.put, List.setIfInBounds_toArray, List.set_cons_zero, List.set_cons_succ]
              generalize V21.alloc (.cells #[.int .i64 0, .int .i64 0, .int .i64 0, .slice none 0 0] 26) = V29 at hHeld BV29 OV29 QV29 ZV29 ⊢
              refine wpAnyH_ready (rs := [10]) (by kernel_rfl) (by simp) ?_
              refine AllReadyH.cons (by simp only [List.getElem?_toArray, List.getElem?_cons_zero, List.getElem?_cons_succ]; rfl) (fun K hK => ?_) ?_
              · refine step_lay rfl _ _ rfl W.heap.size (.slice A1 k kA1) k (ls.take k) rfl OV29.out (some ⟨gq, 0, none⟩) 1 1 [sqLy] rfl (rl_q QV29.out) rfl (by omega) BV29.out.size ?_
                intro A2 kA2 V30 hown hgrow hblk
                have BV30 : Hid (Below W.heap.size W V30) := BV29.out.grown hgrow BV29.out.size (fun q hk => (OV29.out.lt q hk).1)
                have OV30 := Lib.hid hown
                have ZV30 := Lib.hid (nb_grow hgrow OV29.out ZV29.out)
                have QV30 := Lib.hid (qb_far hgrow QV29.out FV29.out)
                have FV30 := Lib.hid (far_next FV29.out hblk QV29.out.lt)
                have q0 := (BV30.out.cell (p := ⟨w.heap.size, 0, none⟩) lN).trans c0
                have q1 := (BV30.out.cell (p := ⟨w.heap.size, 1, none⟩) lN).trans c1
                have q2 := (BV30.out.cell (p := ⟨w.heap.size, 2, none⟩) lN).trans c2
                have q3 := (BV30.out.cell (p := ⟨w.heap.size, 3, none⟩) lN).trans c3
                refine hK.out _ _ ⟨q0, q1, q2, q3⟩ (fun hHeld => ?_)
                clear hK K q0 q1 q2 q3 hown hgrow hblk
                try simp only [Act.put, List.setIfInBounds_toArray, List.set_cons_zero, List.set_cons_succ]
                refine wpAnyH_ready (rs := [15]) (by kernel_rfl) (by simp) ?_
                refine AllReadyH.cons (by simp only [List.getElem?_toArray, List.getElem?_cons_zero, List.getElem?_cons_succ]; rfl) (fun K hK => ?_) ?_
                · refine step_lay rfl _ _ rfl W.heap.size (.slice A2 (k + 1) kA2) (k + 1) (ls.take k ++ [sqLy]) rfl OV30.out AR nR cR (ls.drop k) rfl (DR.out _ (HX.out.below (chain BW.out BV30.out))) LDK.out (by omega) BV30.out.size ?_
                  intro A3 kA3 V31 hown hgrow hblk
                  have BV31 : Hid (Below W.heap.size W V31) := BV30.out.grown hgrow BV30.out.size (fun q hk => (OV30.out.lt q hk).1)
                  have OV31 := Lib.hid hown
                  have ZV31 := Lib.hid (nb_grow hgrow OV30.out ZV30.out)
                  have QV31 := Lib.hid (qb_far hgrow QV30.out FV30.out)
                  have FV31 := Lib.hid (far_next FV30.out hblk QV30.out.lt)
                  have q0 := (BV31.out.cell (p := ⟨w.heap.size, 0, none⟩) lN).trans c0
                  have q1 := (BV31.out.cell (p := ⟨w.heap.size, 1, none⟩) lN).trans c1
                  have q2 := (BV31.out.cell (p := ⟨w.heap.size, 2, none⟩) lN).trans c2
                  have q3 := (BV31.out.cell (p := ⟨w.heap.size, 3, none⟩) lN).trans c3
                  refine hK.out _ _ ⟨q0, q1, q2, q3⟩ (fun hHeld => ?_)
                  clear hK K q0 q1 q2 q3 hown hgrow hblk
                  try simp only [Act.put, List.setIfInBounds_toArray, List.set_cons_zero, List.set_cons_succ]
                  refine wpAnyH_take (i := 16) (v := ?vv18) (by simp only [List.getElem?_toArray, List.getElem?_cons_zero, List.getElem?_cons_succ]; rfl) (by kernel_rfl) (by kernel_rfl) (by kernel_rfl) (fun _ _ _ h => h) (Or.inl ⟨by rfl, ?yy18⟩) (by assumption) ?rr18
                  case yy18 => (intro w hSw; (try dsimp only at hSw); go_simp; first | done | with_reducible rfl)
                  simp only [Act.put, List.setIfInBounds_toArray, List.set_cons_zero, List.set_cons_succ]
                  refine wpAnyH_ready (rs := [18]) (by kernel_rfl) (by simp) ?_
                  refine AllReadyH.cons (by simp only [List.getElem?_toArray, List.getElem?_cons_zero, List.getElem?_cons_succ]; rfl) (fun K hK => ?_) ?_
                  · obtain ⟨z0, z1, z2, z3⟩ := ZV31.out.cells
                    have f0 : V31.frozen? ⟨gz, 0, none⟩ = false := Lib.frozen_of_heap ZV31.out 0
                    have f1 : V31.frozen? ⟨gz, 1, none⟩ = false := Lib.frozen_of_heap ZV31.out 1
                    have f2 : V31.frozen? ⟨gz, 2, none⟩ = false := Lib.frozen_of_heap ZV31.out 2
                    have f3 : V31.frozen? ⟨gz, 3, none⟩ = false := Lib.frozen_of_heap ZV31.out 3
                    go_simp
                    have MV32 : Hid (Made W ((((V31.setCell ⟨gz, 0, none⟩ (.int .i64 c)).setCell ⟨gz, 1, none⟩ (.int .i64 h)).setCell ⟨gz, 2, none⟩ (.int .i64 x)).setCell ⟨gz, 3, none⟩ (.slice A3 (k + 1 + nR) kA3)) gz c h x A3 (n + 1) kA3 (ls.take k ++ [sqLy] ++ ls.drop k)) := by
                      have h1 : k + 1 + nR = (ls.take k ++ [sqLy] ++ ls.drop k).length := by rw [List.length_append, List.length_append, ← LTK.out, ← LDK.out]; rfl
                      have := made_set (c := c) (h := h) (x := x) BV31.out GZ.out OV31.out h1 ZV31.out
                      show Made _ _ _ _ _ _ _ _ _ _
                      rw [← NSUM.out]; exact this
                    have q0 := (MV32.out.1.cell (p := ⟨w.heap.size, 0, none⟩) lN).trans c0
                    have q1 := (MV32.out.1.cell (p := ⟨w.heap.size, 1, none⟩) lN).trans c1
                    have q2 := (MV32.out.1.cell (p := ⟨w.heap.size, 2, none⟩) lN).trans c2
                    have q3 := (MV32.out.1.cell (p := ⟨w.heap.size, 3, none⟩) lN).trans c3
                    refine hK.out _ _ ⟨q0, q1, q2, q3⟩ (fun hHeld => ?_)
                    clear hK K q0 q1 q2 q3
                    try simp only [Act.put, List.setIfInBounds_toArray, List.set_cons_zero, List.set_cons_succ]
                    refine wpAnyH_done (by kernel_rfl) ?_ _
                    refine NoPanic.normal ?_
                    go_wp2_with fail
                    go_meet
                    exact ⟨_, _, _, rfl, MV32.out⟩
                  exact AllReadyH.nil
                exact AllReadyH.nil
              exact AllReadyH.nil
            exact AllReadyH.nil
          refine AllReadyH.cons (by simp only [List.getElem?_toArray, List.getElem?_cons_zero, List.getElem?_cons_succ]; rfl) (fun K hK => ?_) ?_
          · go_simp
            have BV33 : Hid (Below W.heap.size W (V20.alloc (.cells #[.int .i64 0, .int .i64 0, .int .i64 0, .slice none 0 0] 26))) := BV20.out.alloc BV20.out.size _
            have OV33 := Lib.hid (OV20.out.alloc (.cells #[.int .i64 0, .int .i64 0, .int .i64 0, .slice none 0 0] 26))
            have QV33 := Lib.hid (QV20.out.alloc (.cells #[.int .i64 0, .int .i64 0, .int .i64 0, .slice none 0 0] 26))
            have FV33 := FV20
            obtain ⟨gz, hgz⟩ : ∃ g, g = V20.heap.size := ⟨_, rfl⟩
            have ZV33 : Hid (NB (V20.alloc (.cells #[.int .i64 0, .int .i64 0, .int .i64 0, .slice none 0 0] 26)) gz 0 0 0 (.slice none 0 0)) := by rw [hgz]; exact NB.new V20 0 0 0 _
            have GZ : Hid (W.heap.size ≤ gz) := by rw [hgz]; exact BV20.out.size
            rw [← hgz]
            have q0 := (BV33.out.cell (p := ⟨w.heap.size, 0, none⟩) lN).trans c0
            have q1 := (BV33.out.cell (p := ⟨w.heap.size, 1, none⟩) lN).trans c1
            have q2 := (BV33.out.cell (p := ⟨w.heap.size, 2, none⟩) lN).trans c2
            have q3 := (BV33.out.cell (p := ⟨w.heap.size, 3, none⟩) lN).trans c3
            refine hK.out _ _ ⟨q0, q1, q2, q3⟩ (fun hHeld => ?_)
            clear hK K q0 q1 q2 q3 hgz
            try simp only [Act.put, List.setIfInBounds_toArray, List.set_cons_zero, List.set_cons_succ]
            generalize V20.alloc (.cells #[.int .i64 0, .int .i64 0, .int .i64 0, .slice none 0 0] 26) = V33 at hHeld BV33 OV33 QV33 ZV33 ⊢
            refine wpAnyH_ready (rs := [7]) (by kernel_rfl) (by simp) ?_
            refine AllReadyH.cons (by simp only [List.getElem?_toArray, List.getElem?_cons_zero, List.getElem?_cons_succ]; rfl) (fun K hK => ?_) ?_
            · refine step_layE rfl _ _ rfl W.heap.size (.slice (some ⟨geV1, 0, none⟩) 0 0) rfl OV33.out A k cA (ls.take k) rfl (sq_take (HX.out.below (chain BW.out BV33.out)) k) LTK.out (by omega) BV33.out.size ?_
              intro A1 kA1 V34 hown hgrow hblk
              have BV34 : Hid (Below W.heap.size W V34) := BV33.out.grown hgrow BV33.out.size (fun q hk => (OV33.out.lt q hk).1)
              have OV34 := Lib.hid hown
              have ZV34 := Lib.hid (nb_grow hgrow OV33.out ZV33.out)
              have QV34 := Lib.hid (qb_far hgrow QV33.out FV33.out)
              have FV34 := Lib.hid (far_next FV33.out hblk QV33.out.lt)
              have q0 := (BV34.out.cell (p := ⟨w.heap.size, 0, none⟩) lN).trans c0
              have q1 := (BV34.out.cell (p := ⟨w.heap.size, 1, none⟩) lN).trans c1
              have q2 := (BV34.out.cell (p := ⟨w.heap.size, 2, none⟩) lN).trans c2
              have q3 := (BV34.out.cell (p := ⟨w.heap.size, 3, none⟩) lN).trans c3
              refine hK.out _ _ ⟨q0, q1, q2, q3⟩ (fun hHeld => ?_)
              clear hK K q0 q1 q2 q3 hown hgrow hblk
              try simp only [Act.put, List.setIfInBounds_toArray, List.set_cons_zero, List.set_cons_succ]
              refine wpAnyH_ready (rs := [10]) (by kernel_rfl) (by simp) ?_
              refine AllReadyH.cons (by simp only [List.getElem?_toArray, List.getElem?_cons_zero, List.getElem?_cons_succ]; rfl) (fun K hK => ?_) ?_
              · refine step_lay rfl _ _ rfl W.heap.size (.slice A1 k kA1) k (ls.take k) rfl OV34.out (some ⟨gq, 0, none⟩) 1 1 [sqLy] rfl (rl_q QV34.out) rfl (by omega) BV34.out.size ?_
                intro A2 kA2 V35 hown hgrow hblk
                have BV35 : Hid (Below W.heap.size W V35) := BV34.out.grown hgrow BV34.out.size (fun q hk => (OV34.out.lt q hk).1)
                have OV35 := Lib.hid hown
                have ZV35 := Lib.hid (nb_grow hgrow OV34.out ZV34.out)
                have QV35 := Lib.hid (qb_far hgrow QV34.out FV34.out)
                have FV35 := Lib.hid (far_next FV34.out hblk QV34.out.lt)
                have q0 := (BV35.out.cell (p := ⟨w.heap.size, 0, none⟩) lN).trans c0
                have q1 := (BV35.out.cell (p := ⟨w.heap.size, 1, none⟩) lN).trans c1
                have q2 := (BV35.out.cell (p := ⟨w.heap.size, 2, none⟩) lN).trans c2
                have q3 := (BV35.out.cell (p := ⟨w.heap.size, 3, none⟩) lN).trans c3
                refine hK.out _ _ ⟨q0, q1, q2, q3⟩ (fun hHeld => ?_)
                clear hK K q0 q1 q2 q3 hown hgrow hblk
                try simp only [Act.put, List.setIfInBounds_toArray, List.set_cons_zero, List.set_cons_succ]
                refine wpAnyH_ready (rs := [15]) (by kernel_rfl) (by simp) ?_
                refine AllReadyH.cons (by simp only [List.getElem?_toArray, List.getElem?_cons_zero, List.getElem?_cons_succ]; rfl) (fun K hK => ?_) ?_
                · refine step_lay rfl _ _ rfl W.heap.size (.slice A2 (k + 1) kA2) (k + 1) (ls.take k ++ [sqLy]) rfl OV35.out AR nR cR (ls.drop k) rfl (DR.out _ (HX.out.below (chain BW.out BV35.out))) LDK.out (by omega) BV35.out.size ?_
                  intro A3 kA3 V36 hown hgrow hblk
                  have BV36 : Hid (Below W.heap.size W V36) := BV35.out.grown hgrow BV35.out.size (fun q hk => (OV35.out.lt q hk).1)
                  have OV36 := Lib.hid hown
                  have ZV36 := Lib.hid (nb_grow hgrow OV35.out ZV35.out)
                  have QV36 := Lib.hid (qb_far hgrow QV35.out FV35.out)
                  have FV36 := Lib.hid (far_next FV35.out hblk QV35.out.lt)
                  have q0 := (BV36.out.cell (p := ⟨w.heap.size, 0, none⟩) lN).trans c0
                  have q1 := (BV36.out.cell (p := ⟨w.heap.size, 1, none⟩) lN).trans c1
                  have q2 := (BV36.out.cell (p := ⟨w.heap.size, 2, none⟩) lN).trans c2
                  have q3 := (BV36.out.cell (p := ⟨w.heap.size, 3, none⟩) lN).trans c3
                  refine hK.out _ _ ⟨q0, q1, q2, q3⟩ (fun hHeld => ?_)
                  clear hK K q0 q1 q2 q3 hown hgrow hblk
                  try simp only [Act.put, List.setIfInBounds_toArray, List.set_cons_zero, List.set_cons_succ]
                  refine wpAnyH_take (i := 16) (v := ?vv19) (by simp only [List.getElem?_toArray, List.getElem?_cons_zero, List.getElem?_cons_succ]; rfl) (by kernel_rfl) (by kernel_rfl) (by kernel_rfl) (fun _ _ _ h => h) (Or.inl ⟨by rfl, ?yy19⟩) (by assumption) ?rr19
                  case yy19 => (intro w hSw; (try dsimp only at hSw); go_simp; first | done | with_reducible rfl)
                  simp only [Act.put, List.setIfInBounds_toArray, List.set_cons_zero, List.set_cons_succ]
                  refine wpAnyH_ready (rs := [18]) (by kernel_rfl) (by simp) ?_
                  refine AllReadyH.cons (by simp only [List.getElem?_toArray, List.getElem?_cons_zero, List.getElem?_cons_succ]; rfl) (fun K hK => ?_) ?_
                  · obtain ⟨z0, z1, z2, z3⟩ := ZV36.out.cells
                    have f0 : V36.frozen? ⟨gz, 0, none⟩ = false := Lib.frozen_of_heap ZV36.out 0
                    have f1 : V36.frozen? ⟨gz, 1, none⟩ = false := Lib.frozen_of_heap ZV36.out 1
                    have f2 : V36.frozen? ⟨gz, 2, none⟩ = false := Lib.frozen_of_heap ZV36.out 2
                    have f3 : V36.frozen? ⟨gz, 3, none⟩ = false := Lib.frozen_of_heap ZV36.out 3
                    go_simp
                    have MV37 : Hid (Made W ((((V36.setCell ⟨gz, 0, none⟩ (.int .i64 c)).setCell ⟨gz, 1, none⟩ (.int .i64 h)).setCell ⟨gz, 2, none⟩ (.int .i64 x)).setCell ⟨gz, 3, none⟩ (.slice A3 (k + 1 + nR) kA3)) gz c h x A3 (n + 1) kA3 (ls.take k ++ [sqLy] ++ ls.drop k)) := by
                      have h1 : k + 1 + nR = (ls.take k ++ [sqLy] ++ ls.drop k).length := by rw [List.length_append, List.length_append, ← LTK.out, ← LDK.out]; rfl
                      have := made_set (c := c) (h := h) (x := x) BV36.out GZ.out OV36.out h1 ZV36.out
                      show Made _ _ _ _ _ _ _ _ _ _
                      rw [← NSUM.out]; exact this
                    have q0 := (MV37.out.1.cell (p := ⟨w.heap.size, 0, none⟩) lN).trans c0
                    have q1 := (MV37.out.1.cell (p := ⟨w.heap.size, 1, none⟩) lN).trans c1
                    have q2 := (MV37.out.1.cell (p := ⟨w.heap.size, 2, none⟩) lN).trans c2
                    have q3 := (MV37.out.1.cell (p := ⟨w.heap.size, 3, none⟩) lN).trans c3
                    refine hK.out _ _ ⟨q0, q1, q2, q3⟩ (fun hHeld => ?_)
                    clear hK K q0 q1 q2 q3
                    try simp only [Act.put, List.setIfInBounds_toArray, List.set_cons_zero, List.set_cons_succ]
                    refine wpAnyH_done (by kernel_rfl) ?_ _
                    refine NoPanic.normal ?_
                    go_wp2_with fail
                    go_meet
                    exact ⟨_, _, _, rfl, MV37.out⟩
                  exact AllReadyH.nil
                exact AllReadyH.nil
              exact AllReadyH.nil
            exact AllReadyH.nil
          exact AllReadyH.nil
        refine AllReadyH.cons (by simp only [List.getElem?_toArray, List.getElem?_cons_zero, List.getElem?_cons_succ]; rfl) (fun K hK => ?_) ?_
        · go_simp
          have BV38 : Hid (Below W.heap.size W (V1.alloc (.cells #[.int .i64 0, .int .i64 0, .int .i64 0, .slice none 0 0] 26))) := BV1.out.alloc BV1.out.size _
          have OV38 := Lib.hid (OV1.out.alloc (.cells #[.int .i64 0, .int .i64 0, .int .i64 0, .slice none 0 0] 26))
          obtain ⟨gz, hgz⟩ : ∃ g, g = V1.heap.size := ⟨_, rfl⟩
          have ZV38 : Hid (NB (V1.alloc (.cells #[.int .i64 0, .int .i64 0, .int .i64 0, .slice none 0 0] 26)) gz 0 0 0 (.slice none 0 0)) := by rw [hgz]; exact NB.new V1 0 0 0 _
          have GZ : Hid (W.heap.size ≤ gz) := by rw [hgz]; exact BV1.out.size
          rw [← hgz]
          have q0 := (BV38.out.cell (p := ⟨w.heap.size, 0, none⟩) lN).trans c0
          have q1 := (BV38.out.cell (p := ⟨w.heap.size, 1, none⟩) lN).trans c1
          have q2 := (BV38.out.cell (p := ⟨w.heap.size, 2, none⟩) lN).trans c2
          have q3 := (BV38.out.cell (p := ⟨w.heap.size, 3, none⟩) lN).trans c3
          refine hK.out _ _ ⟨q0, q1, q2, q3⟩ (fun hHeld => ?_)
          clear hK K q0 q1 q2 q3 hgz
          try simp only [Act.put, List.setIfInBounds_toArray, List.set_cons_zero, List.set_cons_succ]
          generalize V1.alloc (.cells #[.int .i64 0, .int .i64 0, .int .i64 0, .slice none 0 0] 26) = V38 at hHeld BV38 OV38 ZV38 ⊢
          refine wpAnyH_ready (rs := [7, 9]) (by kernel_rfl) (by simp) ?_
          refine AllReadyH.cons (by simp only [List.getElem?_toArray, List.getElem?_cons_zero, List.getElem?_cons_succ]; rfl) (fun K hK => ?_) ?_
          · refine step_layE rfl _ _ rfl W.heap.size (.slice (some ⟨geV1, 0, none⟩) 0 0) rfl OV38.out A k cA (ls.take k) rfl (sq_take (HX.out.below (chain BW.out BV38.out)) k) LTK.out (by omega) BV38.out.size ?_
            intro A1 kA1 V39 hown hgrow hblk
            have BV39 : Hid (Below W.heap.size W V39) := BV38.out.grown hgrow BV38.out.size (fun q hk => (OV38.out.lt q hk).1)
            have OV39 := Lib.hid hown
            have ZV39 := Lib.hid (nb_grow hgrow OV38.out ZV38.out)
            have q0 := (BV39.out.cell (p := ⟨w.heap.size, 0, none⟩) lN).trans c0
            have q1 := (BV39.out.cell (p := ⟨w.heap.size, 1, none⟩) lN).trans c1
            have q2 := (BV39.out.cell (p := ⟨w.heap.size, 2, none⟩) lN).trans c2
            have q3 := (BV39.out.cell (p := ⟨w.heap.size, 3, none⟩) lN).trans c3
            refine hK.out _ _ ⟨q0, q1, q2, q3⟩ (fun hHeld => ?_)
            clear hK K q0 q1 q2 q3 hown hgrow hblk
            try simp only [Act.put, List.setIfInBounds_toArray, List.set_cons_zero, List.set_cons_succ]
            refine wpAnyH_ready (rs := [9]) (by kernel_rfl) (by simp) ?_
            refine AllReadyH.cons (by simp only [List.getElem?_toArray, List.getElem?_cons_zero, List.getElem?_cons_succ]; rfl) (fun K hK => ?_) ?_
            · go_simp
              have BV40 : Hid (Below W.heap.size W (V39.alloc (.cells #[.int .i64 2, .int .i64 0, .int .i64 0, .int .i64 0] 40))) := BV39.out.alloc BV39.out.size _
              have OV40 := Lib.hid (OV39.out.alloc (.cells #[.int .i64 2, .int .i64 0, .int .i64 0, .int .i64 0] 40))
              have ZV40 := Lib.hid (ZV39.out.alloc (.cells #[.int .i64 2, .int .i64 0, .int .i64 0, .int .i64 0] 40))
              obtain ⟨gq, hgq⟩ : ∃ g, g = V39.heap.size := ⟨_, rfl⟩
              have QV40 : Hid (QB (V39.alloc (.cells #[.int .i64 2, .int .i64 0, .int .i64 0, .int .i64 0] 40)) gq sqLy) := by rw [hgq]; exact qb_new V39 2 0 0 0
              have FV40 : Hid ((Value.slice A1 k kA1).ownBlock ≠ some gq) := fun e => by have := (OV39.out.lt _ e).2; omega
              rw [← hgq]
              have q0 := (BV40.out.cell (p := ⟨w.heap.size, 0, none⟩) lN).trans c0
              have q1 := (BV40.out.cell (p := ⟨w.heap.size, 1, none⟩) lN).trans c1
              have q2 := (BV40.out.cell (p := ⟨w.heap.size, 2, none⟩) lN).trans c2
              have q3 := (BV40.out.cell (p := ⟨w.heap.size, 3, none⟩) lN).trans c3
              refine hK.out _ _ ⟨q0, q1, q2, q3⟩ (fun hHeld => ?_)
              clear hK K q0 q1 q2 q3 hgq
              try simp only [Act.put, List.setIfInBounds_toArray, List.set_cons_zero, List.set_cons_succ]
              generalize V39.alloc (.cells #[.int .i64 2, .int .i64 0, .int .i64 0, .int .i64 0] 40) = V40 at hHeld BV40 OV40 ZV40 QV40 ⊢
              refine wpAnyH_ready (rs := [10]) (by kernel_rfl) (by simp) ?_
              refine AllReadyH.cons (by simp only [List.getElem?_toArray, List.getElem?_cons_zero, List.getElem?_cons_succ]; rfl) (fun K hK => ?_) ?_
              · refine step_lay rfl _ _ rfl W.heap.size (.slice A1 k kA1) k (ls.take k) rfl OV40.out (some ⟨gq, 0, none⟩) 1 1 [sqLy] rfl (rl_q QV40.out) rfl (by omega) BV40.out.size ?_
                intro A2 kA2 V41 hown hgrow hblk
                have BV41 : Hid (Below W.heap.size W V41) := BV40.out.grown hgrow BV40.out.size (fun q hk => (OV40.out.lt q hk).1)
                have OV41 := Lib.hid hown
                have ZV41 := Lib.hid (nb_grow hgrow OV40.out ZV40.out)
                have QV41 := Lib.hid (qb_far hgrow QV40.out FV40.out)
                have FV41 := Lib.hid (far_next FV40.out hblk QV40.out.lt)
                have q0 := (BV41.out.cell (p := ⟨w.heap.size, 0, none⟩) lN).trans c0
                have q1 := (BV41.out.cell (p := ⟨w.heap.size, 1, none⟩) lN).trans c1
                have q2 := (BV41.out.cell (p := ⟨w.heap.size, 2, none⟩) lN).trans c2
                have q3 := (BV41.out.cell (p := ⟨w.heap.size, 3, none⟩) lN).trans c3
                refine hK.out _ _ ⟨q0, q1, q2, q3⟩ (fun hHeld => ?_)
                clear hK K q0 q1 q2 q3 hown hgrow hblk
                try simp only [Act.put, List.setIfInBounds_toArray, List.set_cons_zero, List.set_cons_succ]
                refine wpAnyH_ready (rs := [15]) (by kernel_rfl) (by simp) ?_
                refine AllReadyH.cons (by simp only [List.getElem?_toArray, List.getElem?_cons_zero, List.getElem?_cons_succ]; rfl) (fun K hK => ?_) ?_
                · refine step_lay rfl _ _ rfl W.heap.size (.slice A2 (k + 1) kA2) (k + 1) (ls.take k ++ [sqLy]) rfl OV41.out AR nR cR (ls.drop k) rfl (DR.out _ (HX.out.below (chain BW.out BV41.out))) LDK.out (by omega) BV41.out.size ?_
                  intro A3 kA3 V42 hown hgrow hblk
                  have BV42 : Hid (Below W.heap.size W V42) := BV41.out.grown hgrow BV41.out.size (fun q hk => (OV41.out.lt q hk).1)
                  have OV42 := Lib.hid hown
                  have ZV42 := Lib.hid (nb_grow hgrow OV41.out ZV41.out)
                  have QV42 := Lib.hid (qb_far hgrow QV41.out FV41.out)
                  have FV42 := Lib.hid (far_next FV41.out hblk QV41.out.lt)
                  have q0 := (BV42.out.cell (p := ⟨w.heap.size, 0, none⟩) lN).trans c0
                  have q1 := (BV42.out.cell (p := ⟨w.heap.size, 1, none⟩) lN).trans c1
                  have q2 := (BV42.out.cell (p := ⟨w.heap.size, 2, none⟩) lN).trans c2
                  have q3 := (BV42.out.cell (p := ⟨w.heap.size, 3, none⟩) lN).trans c3
                  refine hK.out _ _ ⟨q0, q1, q2, q3⟩ (fun hHeld => ?_)
                  clear hK K q0 q1 q2 q3 hown hgrow hblk
                  try simp only [Act.put, List.setIfInBounds_toArray, List.set_cons_zero, List.set_cons_succ]
                  refine wpAnyH_take (i := 16) (v := ?vv20) (by simp only [List.getElem?_toArray, List.getElem?_cons_zero, List.getElem?_cons_succ]; rfl) (by kernel_rfl) (by kernel_rfl) (by kernel_rfl) (fun _ _ _ h => h) (Or.inl ⟨by rfl, ?yy20⟩) (by assumption) ?rr20
                  case yy20 => (intro w hSw; (try dsimp only at hSw); go_simp; first | done | with_reducible rfl)
                  simp only [Act.put, List.setIfInBounds_toArray, List.set_cons_zero, List.set_cons_succ]
                  refine wpAnyH_ready (rs := [18]) (by kernel_rfl) (by simp) ?_
                  refine AllReadyH.cons (by simp only [List.getElem?_toArray, List.getElem?_cons_zero, List.getElem?_cons_succ]; rfl) (fun K hK => ?_) ?_
                  · obtain ⟨z0, z1, z2, z3⟩ := ZV42.out.cells
                    have f0 : V42.frozen? ⟨gz, 0, none⟩ = false := Lib.frozen_of_heap ZV42.out 0
                    have f1 : V42.frozen? ⟨gz, 1, none⟩ = false := Lib.frozen_of_heap ZV42.out 1
                    have f2 : V42.frozen? ⟨gz, 2, none⟩ = false := Lib.frozen_of_heap ZV42.out 2
                    have f3 : V42.frozen? ⟨gz, 3, none⟩ = false := Lib.frozen_of_heap ZV42.out 3
                    go_simp
                    have MV43 : Hid (Made W ((((V42.setCell ⟨gz, 0, none⟩ (.int .i64 c)).setCell ⟨gz, 1, none⟩ (.int .i64 h)).setCell ⟨gz, 2, none⟩ (.int .i64 x)).setCell ⟨gz, 3, none⟩ (.slice A3 (k + 1 + nR) kA3)) gz c h x A3 (n + 1) kA3 (ls.take k ++ [sqLy] ++ ls.drop k)) := by
                      have h1 : k + 1 + nR = (ls.take k ++ [sqLy] ++ ls.drop k).length := by rw [List.length_append, List.length_append, ← LTK.out, ← LDK.out]; rfl
                      have := made_set (c := c) (h := h) (x := x) BV42.out GZ.out OV42.out h1 ZV42.out
                      show Made _ _ _ _ _ _ _ _ _ _
                      rw [← NSUM.out]; exact this
                    have q0 := (MV43.out.1.cell (p := ⟨w.heap.size, 0, none⟩) lN).trans c0
                    have q1 := (MV43.out.1.cell (p := ⟨w.heap.size, 1, none⟩) lN).trans c1
                    have q2 := (MV43.out.1.cell (p := ⟨w.heap.size, 2, none⟩) lN).trans c2
                    have q3 := (MV43.out.1.cell (p := ⟨w.heap.size, 3, none⟩) lN).trans c3
                    refine hK.out _ _ ⟨q0, q1, q2, q3⟩ (fun hHeld => ?_)
                    clear hK K q0 q1 q2 q3
                    try simp only [Act.put, List.setIfInBounds_toArray, List.set_cons_zero, List.set_cons_succ]
                    refine wpAnyH_done (by kernel_rfl) ?_ _
                    refine NoPanic.normal ?_
                    go_wp2_with fail
                    go_meet
                    exact ⟨_, _, _, rfl, MV43.out⟩
                  exact AllReadyH.nil
                exact AllReadyH.nil
              exact AllReadyH.nil
            exact AllReadyH.nil
          refine AllReadyH.cons (by simp only [List.getElem?_toArray, List.getElem?_cons_zero, List.getElem?_cons_succ]; rfl) (fun K hK => ?_) ?_
          · go_simp
            have BV44 : Hid (Below W.heap.size W (V38.alloc (.cells #[.int .i64 2, .int .i64 0, .int .i64 0, .int .i64 0] 40))) := BV38.out.alloc BV38.out.size _
            have OV44 := Lib.hid (OV38.out.alloc (.cells #[.int .i64 2, .int .i64 0, .int .i64 0, .int .i64 0] 40))
            have ZV44 := Lib.hid (ZV38.out.alloc (.cells #[.int .i64 2, .int .i64 0, .int .i64 0, .int .i64 0] 40))
            obtain ⟨gq, hgq⟩ : ∃ g, g = V38.heap.size := ⟨_, rfl⟩
            have QV44 : Hid (QB (V38.alloc (.cells #[.int .i64 2, .int .i64 0, .int .i64 0, .int .i64 0] 40)) gq sqLy) := by rw [hgq]; exact qb_new V38 2 0 0 0
            have FV44 : Hid ((Value.slice (some ⟨geV1, 0, none⟩) 0 0).ownBlock ≠ some gq) := fun e => by have := (OV38.out.lt _ e).2; omega
            rw [← hgq]
            have q0 := (BV44.out.cell (p := ⟨w.heap.size, 0, none⟩) lN).trans c0
            have q1 := (BV44.out.cell (p := ⟨w.heap.size, 1, none⟩) lN).trans c1
            have q2 := (BV44.out.cell (p := ⟨w.heap.size, 2, none⟩) lN).trans c2
            have q3 := (BV44.out.cell (p := ⟨w.heap.size, 3, none⟩) lN).trans c3
            refine hK.out _ _ ⟨q0, q1, q2, q3⟩ (fun hHeld => ?_)
            clear hK K q0 q1 q2 q3 hgq
            try simp only [Act.put, List.setIfInBounds_toArray, List.set_cons_zero, List.set_cons_succ]
            generalize V38.alloc (.cells #[.int .i64 2, .int .i64 0, .int .i64 0, .int .i64 0] 40) = V44 at hHeld BV44 OV44 ZV44 QV44 ⊢
            refine wpAnyH_ready (rs := [7]) (by kernel_rfl) (by simp) ?_
            refine AllReadyH.cons (by simp only [List.getElem?_toArray, List.getElem?_cons_zero, List.getElem?_cons_succ]; rfl) (fun K hK => ?_) ?_
            · refine step_layE rfl _ _ rfl W.heap.size (.slice (some ⟨geV1, 0, none⟩) 0 0) rfl OV44.out A k cA (ls.take k) rfl (sq_take (HX.out.below (chain BW.out BV44.out)) k) LTK.out (by omega) BV44.out.size ?_
              intro A1 kA1 V45 hown hgrow hblk
              have BV45 : Hid (Below W.heap.size W V45) := BV44.out.grown hgrow BV44.out.size (fun q hk => (OV44.out.lt q hk).1)
              have OV45 := Lib.hid hown
              have ZV45 := Lib.hid (nb_grow hgrow OV44.out ZV44.out)
              have QV45 := Lib.hid (qb_far hgrow QV44.out FV44.out)
              have FV45 := Lib.hid (far_next FV44.out hblk QV44.out.lt)
              have q0 := (BV45.out.cell (p := ⟨w.heap.size, 0, none⟩) lN).trans c0
              have q1 := (BV45.out.cell (p := ⟨w.heap.size, 1, none⟩) lN).trans c1
              have q2 := (BV45.out.cell (p := ⟨w.heap.size, 2, none⟩) lN).trans c2
              have q3 := (BV45.out.cell (p := ⟨w.heap.size, 3, none⟩) lN).trans c3
              refine hK.out _ _ ⟨q0, q1, q2, q3⟩ (fun hHeld => ?_)
              clear hK K q0 q1 q2 q3 hown hgrow hblk
              try simp only [Act.put, List.setIfInBounds_toArray, List.set_cons_zero, List.set_cons_succ]
              refine wpAnyH_ready (rs := [10]) (by kernel_rfl) (by simp) ?_
              refine AllReadyH.cons (by simp only [List.getElem?_toArray, List.getElem?_cons_zero, List.getElem?_cons_succ]; rfl) (fun K hK => ?_) ?_
              · refine step_lay rfl _ _ rfl W.heap.size (.slice A1 k kA1) k (ls.take k) rfl OV45.out (some ⟨gq, 0, none⟩) 1 1 [sqLy] rfl (rl_q QV45.out) rfl (by omega) BV45.out.size ?_
                intro A2 kA2 V46 hown hgrow hblk
                have BV46 : Hid (Below W.heap.size W V46) := BV45.out.grown hgrow BV45.out.size (fun q hk => (OV45.out.lt q hk).1)
                have OV46 := Lib.hid hown
                have ZV46 := Lib.hid (nb_grow hgrow OV45.out ZV45.out)
                have QV46 := Lib.hid (qb_far hgrow QV45.out FV45.out)
                have FV46 := Lib.hid (far_next FV45.out hblk QV45.out.lt)
                have q0 := (BV46.out.cell (p := ⟨w.heap.size, 0, none⟩) lN).trans c0
                have q1 := (BV46.out.cell (p := ⟨w.heap.size, 1, none⟩) lN).trans c1
                have q2 := (BV46.out.cell (p := ⟨w.heap.size, 2, none⟩) lN).trans c2
                have q3 := (BV46.out.cell (p := ⟨w.heap.size, 3, none⟩) lN).trans c3
                refine hK.out _ _ ⟨q0, q1, q2, q3⟩ (fun hHeld => ?_)
                clear hK K q0 q1 q2 q3 hown hgrow hblk
                try simp only [Act.put, List.setIfInBounds_toArray, List.set_cons_zero, List.set_cons_succ]
                refine wpAnyH_ready (rs := [15]) (by kernel_rfl) (by simp) ?_
                refine AllReadyH.cons (by simp only [List.getElem?_toArray, List.getElem?_cons_zero, List.getElem?_cons_succ]; rfl) (fun K hK => ?_) ?_
                · refine step_lay rfl _ _ rfl W.heap.size (.slice A2 (k + 1) kA2) (k + 1) (ls.take k ++ [sqLy]) rfl OV46.out AR nR cR (ls.drop k) rfl (DR.out _ (HX.out.below (chain BW.out BV46.out))) LDK.out (by omega) BV46.out.size ?_
                  intro A3 kA3 V47 hown hgrow hblk
                  have BV47 : Hid (Below W.heap.size W V47) := BV46.out.grown hgrow BV46.out.size (fun q hk => (OV46.out.lt q hk).1)
                  have OV47 := Lib.hid hown
                  have ZV47 := Lib.hid (nb_grow hgrow OV46.out ZV46.out)
                  have QV47 := Lib.hid (qb_far hgrow QV46.out FV46.out)
                  have FV47 := Lib.hid (far_next FV46.out hblk QV46.out.lt)
                  have q0 := (BV47.out.cell (p := ⟨w.heap.size, 0, none⟩) lN).trans c0
                  have q1 := (BV47.out.cell (p := ⟨w.heap.size, 1, none⟩) lN).trans c1
                  have q2 := (BV47.out.cell (p := ⟨w.heap.size, 2, none⟩) lN).trans c2
                  have q3 := (BV47.out.cell (p := ⟨w.heap.size, 3, none⟩) lN).trans c3
                  refine hK.out _ _ ⟨q0, q1, q2, q3⟩ (fun hHeld => ?_)
                  clear hK K q0 q1 q2 q3 hown hgrow hblk
                  try simp only [Act.put, List.setIfInBounds_toArray, List.set_cons_zero, List.set_cons_succ]
                  refine wpAnyH_take (i := 16) (v := ?vv21) (by simp only [List.getElem?_toArray, List.getElem?_cons_zero, List.getElem?_cons_succ]; rfl) (by kernel_rfl) (by kernel_rfl) (by kernel_rfl) (fun _ _ _ h => h) (Or.inl ⟨by rfl, ?yy21⟩) (by assumption) ?rr21
                  case yy21 => (intro w hSw; (try dsimp only at hSw); go_simp; first | done | with_reducible rfl)
                  simp only [Act.put, List.setIfInBounds_toArray, List.set_cons_zero, List.set_cons_succ]
                  refine wpAnyH_ready (rs := [18]) (by kernel_rfl) (by simp) ?_
                  refine AllReadyH.cons (by simp only [List.getElem?_toArray, List.getElem?_cons_zero, List.getElem?_cons_succ]; rfl) (fun K hK => ?_) ?_
                  · obtain ⟨z0, z1, z2, z3⟩ := ZV47.out.cells
                    have f0 : V47.frozen? ⟨gz, 0, none⟩ = false := Lib.frozen_of_heap ZV47.out 0
                    have f1 : V47.frozen? ⟨gz, 1, none⟩ = false := Lib.frozen_of_heap ZV47.out 1
                    have f2 : V47.frozen? ⟨gz, 2, none⟩ = false := Lib.frozen_of_heap ZV47.out 2
                    have f3 : V47.frozen? ⟨gz, 3, none⟩ = false := Lib.frozen_of_heap ZV47.out 3
                    go_simp
                    have MV48 : Hid (Made W ((((V47.setCell ⟨gz, 0, none⟩ (.int .i64 c)).setCell ⟨gz, 1, none⟩ (.int .i64 h)).setCell ⟨gz, 2, none⟩ (.int .i64 x)).setCell ⟨gz, 3, none⟩ (.slice A3 (k + 1 + nR) kA3)) gz c h x A3 (n + 1) kA3 (ls.take k ++ [sqLy] ++ ls.drop k)) := by
                      have h1 : k + 1 + nR = (ls.take k ++ [sqLy] ++ ls.drop k).length := by rw [List.length_append, List.length_append, ← LTK.out, ← LDK.out]; rfl
                      have := made_set (c := c) (h := h) (x := x) BV47.out GZ.out OV47.out h1 ZV47.out
                      show Made _ _ _ _ _ _ _ _ _ _
                      rw [← NSUM.out]; exact this
                    have q0 := (MV48.out.1.cell (p := ⟨w.heap.size, 0, none⟩) lN).trans c0
                    have q1 := (MV48.out.1.cell (p := ⟨w.heap.size, 1, none⟩) lN).trans c1
                    have q2 := (MV48.out.1.cell (p := ⟨w.heap.size, 2, none⟩) lN).trans c2
                    have q3 := (MV48.out.1.cell (p := ⟨w.heap.size, 3, none⟩) lN).trans c3
                    refine hK.out _ _ ⟨q0, q1, q2, q3⟩ (fun hHeld => ?_)
                    clear hK K q0 q1 q2 q3
                    try simp only [Act.put, List.setIfInBounds_toArray, List.set_cons_zero, List.set_cons_succ]
                    refine wpAnyH_done (by kernel_rfl) ?_ _
                    refine NoPanic.normal ?_
                    go_wp2_with fail
                    go_meet
                    exact ⟨_, _, _, rfl, MV48.out⟩
                  exact AllReadyH.nil
                exact AllReadyH.nil
              exact AllReadyH.nil
            exact AllReadyH.nil
          exact AllReadyH.nil
        exact AllReadyH.nil
      refine AllReadyH.cons (by simp only [List.getElem?_toArray, List.getElem?_cons_zero, List.getElem?_cons_succ]; rfl) (fun K hK => ?_) ?_
      · go_simp
        have BV49 : Hid (Below W.heap.size W (V0.alloc (.cells #[.int .i64 2, .int .i64 0, .int .i64 0, .int .i64 0] 40))) := BV0.out.alloc BV0.out.size _
        obtain ⟨gq, hgq⟩ : ∃ g, g = V0.heap.size := ⟨_, rfl⟩
        have QV49 : Hid (QB (V0.alloc (.cells #[.int .i64 2, .int .i64 0, .int .i64 0, .int .i64 0] 40)) gq sqLy) := by rw [hgq]; exact qb_new V0 2 0 0 0
        rw [← hgq]
        have q0 := (BV49.out.cell (p := ⟨w.heap.size, 0, none⟩) lN).trans c0
        have q1 := (BV49.out.cell (p := ⟨w.heap.size, 1, none⟩) lN).trans c1
        have q2 := (BV49.out.cell (p := ⟨w.heap.size, 2, none⟩) lN).trans c2
        have q3 := (BV49.out.cell (p := ⟨w.heap.size, 3, none⟩) lN).trans c3
        refine hK.out _ _ ⟨q0, q1, q2, q3⟩ (fun hHeld => ?_)
        clear hK K q0 q1 q2 q3 hgq
        try simp only [Act.put, List.setIfInBounds_toArray, List.set_cons_zero, List.set_cons_succ]
        generalize V0.alloc (.cells #[.int .i64 2, .int .i64 0, .int .i64 0, .int .i64 0] 40) = V49 at hHeld BV49 QV49 ⊢
        refine wpAnyH_ready (rs := [2, 17]) (by kernel_rfl) (by simp) ?_
        refine AllReadyH.cons (by simp only [List.getElem?_toArray, List.getElem?_cons_zero, List.getElem?_cons_succ]; rfl) (fun K hK => ?_) ?_
        · go_simp
          have BV50 : Hid (Below W.heap.size W (V49.alloc (.cells #[] 40))) := BV49.out.alloc BV49.out.size _
          have QV50 := Lib.hid (QV49.out.alloc (.cells #[] 40))
          obtain ⟨geV50, hgeV50⟩ : ∃ g, g = V49.heap.size := ⟨_, rfl⟩
          have OV50 : Hid ((V49.alloc (.cells #[] 40)).ownsRow W.heap.size 40 4 (.slice (some ⟨geV50, 0, none⟩) 0 0) 0 []) := by rw [hgeV50]; exact own_void (heap_alloc_new V49 _) BV49.out.size
          have FV50 : Hid ((Value.slice (some ⟨geV50, 0, none⟩) 0 0).ownBlock ≠ some gq) := fun e => by simp [Value.ownBlock] at e; have := QV49.out.lt; omega
          rw [← hgeV50]
          have q0 := (BV50.out.cell (p := ⟨w.heap.size, 0, none⟩) lN).trans c0
          have q1 := (BV50.out.cell (p := ⟨w.heap.size, 1, none⟩) lN).trans c1
          have q2 := (BV50.out.cell (p := ⟨w.heap.size, 2, none⟩) lN).trans c2
          have q3 := (BV50.out.cell (p := ⟨w.heap.size, 3, none⟩) lN).trans c3
          refine hK.out _ _ ⟨q0, q1, q2, q3⟩ (fun hHeld => ?_)
          clear hK K q0 q1 q2 q3 hgeV50
          try simp only [Act.put, List.setIfInBounds_toArray, List.set_cons_zero, List.set_cons_succ]
          generalize V49.alloc (.cells #[] 40) = V50 at hHeld BV50 QV50 OV50 ⊢
          refine wpAnyH_ready (rs := [7, 17]) (by kernel_rfl) (by simp) ?_
          refine AllReadyH.cons (by simp only [List.getElem?_toArray, List.getElem?_cons_zero, List.getElem?_cons_succ]; rfl) (fun K hK => ?_) ?_
          · refine step_layE rfl _ _ rfl W.heap.size (.slice (some ⟨geV50, 0, none⟩) 0 0) rfl OV50.out A k cA (ls.take k) rfl (sq_take (HX.out.below (chain BW.out BV50.out)) k) LTK.out (by omega) BV50.out.size ?_
            intro A1 kA1 V51 hown hgrow hblk
            have BV51 : Hid (Below W.heap.size W V51) := BV50.out.grown hgrow BV50.out.size (fun q hk => (OV50.out.lt q hk).1)
            have OV51 := Lib.hid hown
            have QV51 := Lib.hid (qb_far hgrow QV50.out FV50.out)
            have FV51 := Lib.hid (far_next FV50.out hblk QV50.out.lt)
            have q0 := (BV51.out.cell (p := ⟨w.heap.size, 0, none⟩) lN).trans c0
            have q1 := (BV51.out.cell (p := ⟨w.heap.size, 1, none⟩) lN).trans c1
            have q2 := (BV51.out.cell (p := ⟨w.heap.size, 2, none⟩) lN).trans c2
            have q3 := (BV51.out.cell (p := ⟨w.heap.size, 3, none⟩) lN).trans c3
            refine hK.out _ _ ⟨q0, q1, q2, q3⟩ (fun hHeld => ?_)
            clear hK K q0 q1 q2 q3 hown hgrow hblk
            try simp only [Act.put, List.setIfInBounds_toArray, List.set_cons_zero, List.set_cons_succ]
            refine wpAnyH_ready (rs := [10, 17]) (by kernel_rfl) (by simp) ?_
            refine AllReadyH.cons (by simp only [List.getElem?_toArray, List.getElem?_cons_zero, List.getElem?_cons_succ]; rfl) (fun K hK => ?_) ?_
            · refine step_lay rfl _ _ rfl W.heap.size (.slice A1 k kA1) k (ls.take k) rfl OV51.out (some ⟨gq, 0, none⟩) 1 1 [sqLy] rfl (rl_q QV51.out) rfl (by omega) BV51.out.size ?_
              intro A2 kA2 V52 hown hgrow hblk
              have BV52 : Hid (Below W.heap.size W V52) := BV51.out.grown hgrow BV51.out.size (fun q hk => (OV51.out.lt q hk).1)
              have OV52 := Lib.hid hown
              have QV52 := Lib.hid (qb_far hgrow QV51.out FV51.out)
              have FV52 := Lib.hid (far_next FV51.out hblk QV51.out.lt)
              have q0 := (BV52.out.cell (p := ⟨w.heap.size, 0, none⟩) lN).trans c0
              have q1 := (BV52.out.cell (p := ⟨w.heap.size, 1, none⟩) lN).trans c1
              have q2 := (BV52.out.cell (p := ⟨w.heap.size, 2, none⟩) lN).trans c2
              have q3 := (BV52.out.cell (p := ⟨w.heap.size, 3, none⟩) lN).trans c3
              refine hK.out _ _ ⟨q0, q1, q2, q3⟩ (fun hHeld => ?_)
              clear hK K q0 q1 q2 q3 hown hgrow hblk
              try simp only [Act.put, List.setIfInBounds_toArray, List.set_cons_zero, List.set_cons_succ]
              refine wpAnyH_ready (rs := [15, 17]) (by kernel_rfl) (by simp) ?_
              refine AllReadyH.cons (by simp only [List.getElem?_toArray, List.getElem?_cons_zero, List.getElem?_cons_succ]; rfl) (fun K hK => ?_) ?_
              · refine step_lay rfl _ _ rfl W.heap.size (.slice A2 (k + 1) kA2) (k + 1) (ls.take k ++ [sqLy]) rfl OV52.out AR nR cR (ls.drop k) rfl (DR.out _ (HX.out.below (chain BW.out BV52.out))) LDK.out (by omega) BV52.out.size ?_
                intro A3 kA3 V53 hown hgrow hblk
                have BV53 : Hid (Below W.heap.size W V53) := BV52.out.grown hgrow BV52.out.size (fun q hk => (OV52.out.lt q hk).1)
                have OV53 := Lib.hid hown
                have QV53 := Lib.hid (qb_far hgrow QV52.out FV52.out)
                have FV53 := Lib.hid (far_next FV52.out hblk QV52.out.lt)
                have q0 := (BV53.out.cell (p := ⟨w.heap.size, 0, none⟩) lN).trans c0
                have q1 := (BV53.out.cell (p := ⟨w.heap.size, 1, none⟩) lN).trans c1
                have q2 := (BV53.out.cell (p := ⟨w.heap.size, 2, none⟩) lN).trans c2
                have q3 := (BV53.out.cell (p := ⟨w.heap.size, 3, none⟩) lN).trans c3
                refine hK.out _ _ ⟨q0, q1, q2, q3⟩ (fun hHeld => ?_)
                clear hK K q0 q1 q2 q3 hown hgrow hblk
                try simp only [Act.put, List.setIfInBounds_toArray, List.set_cons_zero, List.set_cons_succ]
                refine wpAnyH_take (i := 16) (v := ?vv22) (by simp only [List.getElem?_toArray, List.getElem?_cons_zero, List.getElem?_cons_succ]; rfl) (by kernel_rfl) (by kernel_rfl) (by kernel_rfl) (fun _ _ _ h => h) (Or.inl ⟨by rfl, ?yy22⟩) (by assumption) ?rr22
                case yy22 => (intro w hSw; (try dsimp only at hSw); go_simp; first | done | with_reducible rfl)
                simp only [Act.put, List.setIfInBounds_toArray, List.set_cons_zero, List.set_cons_succ]
                refine wpAnyH_ready (rs := [17]) (by kernel_rfl) (by simp) ?_
                refine AllReadyH.cons (by simp only [List.getElem?_toArray, List.getElem?_cons_zero, List.getElem?_cons_succ]; rfl) (fun K hK => ?_) ?_
                · go_simp
                  have BV54 : Hid (Below W.heap.size W (V53.alloc (.cells #[.int .i64 0, .int .i64 0, .int .i64 0, .slice none 0 0] 26))) := BV53.out.alloc BV53.out.size _
                  have OV54 := Lib.hid (OV53.out.alloc (.cells #[.int .i64 0, .int .i64 0, .int .i64 0, .slice none 0 0] 26))
                  have QV54 := Lib.hid (QV53.out.alloc (.cells #[.int .i64 0, .int .i64 0, .int .i64 0, .slice none 0 0] 26))
                  have FV54 := FV53
                  obtain ⟨gz, hgz⟩ : ∃ g, g = V53.heap.size := ⟨_, rfl⟩
                  have ZV54 : Hid (NB (V53.alloc (.cells #[.int .i64 0, .int .i64 0, .int .i64 0, .slice none 0 0] 26)) gz 0 0 0 (.slice none 0 0)) := by rw [hgz]; exact NB.new V53 0 0 0 _
                  have GZ : Hid (W.heap.size ≤ gz) := by rw [hgz]; exact BV53.out.size
                  rw [← hgz]
                  have q0 := (BV54.out.cell (p := ⟨w.heap.size, 0, none⟩) lN).trans c0
                  have q1 := (BV54.out.cell (p := ⟨w.heap.size, 1, none⟩) lN).trans c1
                  have q2 := (BV54.out.cell (p := ⟨w.heap.size, 2, none⟩) lN).trans c2
                  have q3 := (BV54.out.cell (p := ⟨w.heap.size, 3, none⟩) lN).trans c3
                  refine hK.out _ _ ⟨q0, q1, q2, q3⟩ (fun hHeld => ?_)
                  clear hK K q0 q1 q2 q3 hgz
                  try simp only [Act.put, List.setIfInBounds_toArray, List.set_cons_zero, List.set_cons_succ]
                  generalize V53.alloc (.cells #[.int .i64 0, .int .i64 0, .int .i64 0, .slice none 0 0] 26) = V54 at hHeld BV54 OV54 QV54 ZV54 ⊢
                  refine wpAnyH_ready (rs := [18]) (by kernel_rfl) (by simp) ?_
                  refine AllReadyH.cons (by simp only [List.getElem?_toArray, List.getElem?_cons_zero, List.getElem?_cons_succ]; rfl) (fun K hK => ?_) ?_
                  · obtain ⟨z0, z1, z2, z3⟩ := ZV54.out.cells
                    have f0 : V54.frozen? ⟨gz, 0, none⟩ = false := Lib.frozen_of_heap ZV54.out 0
                    have f1 : V54.frozen? ⟨gz, 1, none⟩ = false := Lib.frozen_of_heap ZV54.out 1
                    have f2 : V54.frozen? ⟨gz, 2, none⟩ = false := Lib.frozen_of_heap ZV54.out 2
                    have f3 : V54.frozen? ⟨gz, 3, none⟩ = false := Lib.frozen_of_heap ZV54.out 3
                    go_simp
                    have MV55 : Hid (Made W ((((V54.setCell ⟨gz, 0, none⟩ (.int .i64 c)).setCell ⟨gz, 1, none⟩ (.int .i64 h)).setCell ⟨gz, 2, none⟩ (.int .i64 x)).setCell ⟨gz, 3, none⟩ (.slice A3 (k + 1 + nR) kA3)) gz c h x A3 (n + 1) kA3 (ls.take k ++ [sqLy] ++ ls.drop k)) := by
                      have h1 : k + 1 + nR = (ls.take k ++ [sqLy] ++ ls.drop k).length := by rw [List.length_append, List.length_append, ← LTK.out, ← LDK.out]; rfl
                      have := made_set (c := c) (h := h) (x := x) BV54.out GZ.out OV54.out h1 ZV54.out
                      show Made _ _ _ _ _ _ _ _ _ _
                      rw [← NSUM.out]; exact this
                    have q0 := (MV55.out.1.cell (p := ⟨w.heap.size, 0, none⟩) lN).trans c0
                    have q1 := (MV55.out.1.cell (p := ⟨w.heap.size, 1, none⟩) lN).trans c1
                    have q2 := (MV55.out.1.cell (p := ⟨w.heap.size, 2, none⟩) lN).trans c2
                    have q3 := (MV55.out.1.cell (p := ⟨w.heap.size, 3, none⟩) lN).trans c3
                    refine hK.out _ _ ⟨q0, q1, q2, q3⟩ (fun hHeld => ?_)
                    clear hK K q0 q1 q2 q3
                    try simp only [Act.put, List.setIfInBounds_toArray, List.set_cons_zero, List.set_cons_succ]
                    refine wpAnyH_done (by kernel_rfl) ?_ _
                    refine NoPanic.normal ?_
                    go_wp2_with fail
                    go_meet
                    exact ⟨_, _, _, rfl, MV55.out⟩
                  exact AllReadyH.nil
                exact AllReadyH.nil
              refine AllReadyH.cons (by simp only [List.getElem?_toArray, List.getElem?_cons_zero, List.getElem?_cons_succ]; rfl) (fun K hK => ?_) ?_
              · go_simp
                have BV56 : Hid (Below W.heap.size W (V52.alloc (.cells #[.int .i64 0, .int .i64 0, .int .i64 0, .slice none 0 0] 26))) := BV52.out.alloc BV52.out.size _
                have OV56 := Lib.hid (OV52.out.alloc (.cells #[.int .i64 0, .int .i64 0, .int .i64 0, .slice none 0 0] 26))
                have QV56 := Lib.hid (QV52.out.alloc (.cells #[.int .i64 0, .int .i64 0, .int .i64 0, .slice none 0 0] 26))
                have FV56 := FV52
                obtain ⟨gz, hgz⟩ : ∃ g, g = V52.heap.size := ⟨_, rfl⟩
                have ZV56 : Hid (NB (V52.alloc (.cells #[.int .i64 0, .int .i64 0, .int .i64 0, .slice none 0 0] 26)) gz 0 0 0 (.slice none 0 0)) := by rw [hgz]; exact NB.new V52 0 0 0 _
                have GZ : Hid (W.heap.size ≤ gz) := by rw [hgz]; exact BV52.out.size
                rw [← hgz]
                have q0 := (BV56.out.cell (p := ⟨w.heap.size, 0, none⟩) lN).trans c0
                have q1 := (BV56.out.cell (p := ⟨w.heap.size, 1, none⟩) lN).trans c1
                have q2 := (BV56.out.cell (p := ⟨w.heap.size, 2, none⟩) lN).trans c2
                have q3 := (BV56.out.cell (p := ⟨w.heap.size, 3, none⟩) lN).trans c3
                refine hK.out _ _ ⟨q0, q1, q2, q3⟩ (fun hHeld => ?_)
                clear hK K q0 q1 q2 q3 hgz
                try simp only [Act.put, List.setIfInBounds_toArray, List.set_cons_zero, List.set_cons_succ]
                generalize V52.alloc (.cells #[.int .i64 0, .int .i64 0, .int .i64 0, .slice none 0 0] 26) = V56 at hHeld BV56 OV56 QV56 ZV56 ⊢
                refine wpAnyH_ready (rs := [15]) (by kernel_rfl) (by simp) ?_
                refine AllReadyH.cons (by simp only [List.getElem?_toArray, List.getElem?_cons_zero, List.getElem?_cons_succ]; rfl) (fun K hK => ?_) ?_
                · refine step_lay rfl _ _ rfl W.heap.size (.slice A2 (k + 1) kA2) (k + 1) (ls.take k ++ [sqLy]) rfl OV56.out AR nR cR (ls.drop k) rfl (DR.out _ (HX.out.below (chain BW.out BV56.out))) LDK.out (by omega) BV56.out.size ?_
                  intro A3 kA3 V57 hown hgrow hblk
                  have BV57 : Hid (Below W.heap.size W V57) := BV56.out.grown hgrow BV56.out.size (fun q hk => (OV56.out.lt q hk).1)
                  have OV57 := Lib.hid hown
                  have ZV57 := Lib.hid (nb_grow hgrow OV56.out ZV56.out)
                  have QV57 := Lib.hid (qb_far hgrow QV56.out FV56.out)
                  have FV57 := Lib.hid (far_next FV56.out hblk QV56.out.lt)
                  have q0 := (BV57.out.cell (p := ⟨w.heap.size, 0, none⟩) lN).trans c0
                  have q1 := (BV57.out.cell (p := ⟨w.heap.size, 1, none⟩) lN).trans c1
                  have q2 := (BV57.out.cell (p := ⟨w.heap.size, 2, none⟩) lN).trans c2
                  have q3 := (BV57.out.cell (p := ⟨w.heap.size, 3, none⟩) lN).trans c3
                  refine hK.out _ _ ⟨q0, q1, q2, q3⟩ (fun hHeld => ?_)
                  clear hK K q0 q1 q2 q3 hown hgrow hblk
                  try simp only [Act.put, List.setIfInBounds_toArray, List.set_cons_zero, List.set_cons_succ]
                  refine wpAnyH_take (i := 16) (v := ?vv23) (by simp only [List.getElem?_toArray, List.getElem?_cons_zero, List.getElem?_cons_succ]; rfl) (by kernel_rfl) (by kernel_rfl) (by kernel_rfl) (fun _ _ _ h => h) (Or.inl ⟨by rfl, ?yy23⟩) (by assumption) ?rr23
                  case yy23 => (intro w hSw; (try dsimp only at hSw); go_simp; first | done | with_reducible rfl)
                  simp only [Act.put, List.setIfInBounds_toArray, List.set_cons_zero, List.set_cons_succ]
                  refine wpAnyH_ready (rs := [18]) (by kernel_rfl) (by simp) ?_
                  refine AllReadyH.cons (by simp only [List.getElem?_toArray, List.getElem?_cons_zero, List.getElem?_cons_succ]; rfl) (fun K hK => ?_) ?_
                  · obtain ⟨z0, z1, z2, z3⟩ := ZV57.out.cells
                    have f0 : V57.frozen? ⟨gz, 0, none⟩ = false := Lib.frozen_of_heap ZV57.out 0
                    have f1 : V57.frozen? ⟨gz, 1, none⟩ = false := Lib.frozen_of_heap ZV57.out 1
                    have f2 : V57.frozen? ⟨gz, 2, none⟩ = false := Lib.frozen_of_heap ZV57.out 2
                    have f3 : V57.frozen? ⟨gz, 3, none⟩ = false := Lib.frozen_of_heap ZV57.out 3
                    go_simp
                    have MV58 : Hid (Made W ((((V57.setCell ⟨gz, 0, none⟩ (.int .i64 c)).setCell ⟨gz, 1, none⟩ (.int .i64 h)).setCell ⟨gz, 2, none⟩ (.int .i64 x)).setCell ⟨gz, 3, none⟩ (.slice A3 (k + 1 + nR) kA3)) gz c h x A3 (n + 1) kA3 (ls.take k ++ [sqLy] ++ ls.drop k)) := by
                      have h1 : k + 1 + nR = (ls.take k ++ [sqLy] ++ ls.drop k).length := by rw [List.length_append, List.length_append, ← LTK.out, ← LDK.out]; rfl
                      have := made_set (c := c) (h := h) (x := x) BV57.out GZ.out OV57.out h1 ZV57.out
                      show Made _ _ _ _ _ _ _ _ _ _
                      rw [← NSUM.out]; exact this
                    have q0 := (MV58.out.1.cell (p := ⟨w.heap.size, 0, none⟩) lN).trans c0
                    have q1 := (MV58.out.1.cell (p := ⟨w.heap.size, 1, none⟩) lN).trans c1
                    have q2 := (MV58.out.1.cell (p := ⟨w.heap.size, 2, none⟩) lN).trans c2
                    have q3 := (MV58.out.1.cell (p := ⟨w.heap.size, 3, none⟩) lN).trans c3
                    refine hK.out _ _ ⟨q0, q1, q2, q3⟩ (fun hHeld => ?_)
                    clear hK K q0 q1 q2 q3
                    try simp only [Act.put, List.setIfInBounds_toArray, List.set_cons_zero, List.set_cons_succ]
                    refine wpAnyH_done (by kernel_rfl) ?_ _
                    refine NoPanic.normal ?_
                    go_wp2_with fail
                    go_meet
                    exact ⟨_, _, _, rfl, MV58.out⟩
                  exact AllReadyH.nil
                exact AllReadyH.nil
              exact AllReadyH.nil
            refine AllReadyH.cons (by simp only [List.getElem?_toArray, List.getElem?_cons_zero, List.getElem?_cons_succ]; rfl) (fun K hK => ?_) ?_
            · go_simp
              have BV59 : Hid (Below W.heap.size W (V51.alloc (.cells #[.int .i64 0, .int .i64 0, .int .i64 0, .slice none 0 0] 26))) := BV51.out.alloc BV51.out.size _
              have OV59 := Lib.hid (OV51.out.alloc (.cells #[.int .i64 0, .int .i64 0, .int .i64 0, .slice none 0 0] 26))
              have QV59 := Lib.hid (QV51.out.alloc (.cells #[.int .i64 0, .int .i64 0, .int .i64 0, .slice none 0 0] 26))
              have FV59 := FV51
              obtain ⟨gz, hgz⟩ : ∃ g, g = V51.heap.size := ⟨_, rfl⟩
              have ZV59 : Hid (NB (V51.alloc (.cells #[.int .i64 0, .int .i64 0, .int .i64 0, .slice none 0 0] 26)) gz 0 0 0 (.slice none 0 0)) := by rw [hgz]; exact NB.new V51 0 0 0 _
              have GZ : Hid (W.heap.size ≤ gz) := by rw [hgz]; exact BV51.out.size
              rw [← hgz]
              have q0 := (BV59.out.cell (p := ⟨w.heap.size, 0, none⟩) lN).trans c0
              have q1 := (BV59.out.cell (p := ⟨w.heap.size, 1, none⟩) lN).trans c1
              have q2 := (BV59.out.cell (p := ⟨w.heap.size, 2, none⟩) lN).trans c2
              have q3 := (BV59.out.cell (p := ⟨w.heap.size, 3, none⟩) lN).trans c3
              refine hK.out _ _ ⟨q0, q1, q2, q3⟩ (fun hHeld => ?_)
              clear hK K q0 q1 q2 q3 hgz
              try simp only [Act.put, List.setIfInBounds_toArray, List.set_cons_zero, List.set_cons_succ]
              generalize V51.alloc (.cells #[.int .i64 0, .int .i64 0, .int .i64 0, .slice none 0 0] 26) = V59 at hHeld BV59 OV59 QV59 ZV59 ⊢
              refine wpAnyH_ready (rs := [10]) (by kernel_rfl) (by simp) ?_
              refine AllReadyH.cons (by simp only [List.getElem?_toArray, List.getElem?_cons_zero, List.getElem?_cons_succ]; rfl) (fun K hK => ?_) ?_
              · refine step_lay rfl _ _ rfl W.heap.size (.slice A1 k kA1) k (ls.take k) rfl OV59.out (some ⟨gq, 0, none⟩) 1 1 [sqLy] rfl (rl_q QV59.out) rfl (by omega) BV59.out.size ?_
                intro A2 kA2 V60 hown hgrow hblk
                have BV60 : Hid (Below W.heap.size W V60) := BV59.out.grown hgrow BV59.out.size (fun q hk => (OV59.out.lt q hk).1)
                have OV60 := Lib.hid hown
                have ZV60 := Lib.hid (nb_grow hgrow OV59.out ZV59.out)
                have QV60 := Lib.hid (qb_far hgrow QV59.out FV59.out)
                have FV60 := Lib.hid (far_next FV59.out hblk QV59.out.lt)
                have q0 := (BV60.out.cell (p := ⟨w.heap.size, 0, none⟩) lN).trans c0
                have q1 := (BV60.out.cell (p := ⟨w.heap.size, 1, none⟩) lN).trans c1
                have q2 := (BV60.out.cell (p := ⟨w.heap.size, 2, none⟩) lN).trans c2
                have q3 := (BV60.out.cell (p := ⟨w.heap.size, 3, none⟩) lN).trans c3
                refine hK.out _ _ ⟨q0, q1, q2, q3⟩ (fun hHeld => ?_)
                clear hK K q0 q1 q2 q3 hown hgrow hblk
                try simp only [Act.put, List.setIfInBounds_toArray, List.set_cons_zero, List.set_cons_succ]
                refine wpAnyH_ready (rs := [15]) (by kernel_rfl) (by simp) ?_
                refine AllReadyH.cons (by simp only [List.getElem?_toArray, List.getElem?_cons_zero, List.getElem?_cons_succ]; rfl) (fun K hK => ?_) ?_
                · refine step_lay rfl _ _ rfl W.heap.size (.slice A2 (k + 1) kA2) (k + 1) (ls.take k ++ [sqLy]) rfl OV60.out AR nR cR (ls.drop k) rfl (DR.out _ (HX.out.below (chain BW.out BV60.out))) LDK.out (by omega) BV60.out.size ?_
                  intro A3 kA3 V61 hown hgrow hblk
                  have BV61 : Hid (Below W.heap.size W V61) := BV60.out.grown hgrow BV60.out.size (fun q hk => (OV60.out.lt q hk).1)
                  have OV61 := Lib.hid hown
                  have ZV61 := Lib.hid (nb_grow hgrow OV60.out ZV60.out)
                  have QV61 := Lib.hid (qb_far hgrow QV60.out FV60.out)
                  have FV61 := Lib.hid (far_next FV60.out hblk QV60.out.lt)
                  have q0 := (BV61.out.cell (p := ⟨w.heap.size, 0, none⟩) lN).trans c0
                  have q1 := (BV61.out.cell (p := ⟨w.heap.size, 1, none⟩) lN).trans c1
                  have q2 := (BV61.out.cell (p := ⟨w.heap.size, 2, none⟩) lN).trans c2
                  have q3 := (BV61.out.cell (p := ⟨w.heap.size, 3, none⟩) lN).trans c3
                  refine hK.out _ _ ⟨q0, q1, q2, q3⟩ (fun hHeld => ?_)
                  clear hK K q0 q1 q2 q3 hown hgrow hblk
                  try simp only [Act.put, List.setIfInBounds_toArray, List.set_cons_zero, List.set_cons_succ]
                  refine wpAnyH_take (i := 16) (v := ?vv24) (by simp only [List.getElem?_toArray, List.getElem?_cons_zero, List.getElem?_cons_succ]; rfl) (by kernel_rfl) (by kernel_rfl) (by kernel_rfl) (fun _ _ _ h => h) (Or.inl ⟨by rfl, ?yy24⟩) (by assumption) ?rr24
                  case yy24 => (intro w hSw; (try dsimp only at hSw); go_simp; first | done | with_reducible rfl)
                  simp only [Act.put, List.setIfInBounds_toArray, List.set_cons_zero, List.set_cons_succ]
                  refine wpAnyH_ready (rs := [18]) (by kernel_rfl) (by simp) ?_
                  refine AllReadyH.cons (by simp only [List.getElem?_toArray, List.getElem?_cons_zero, List.getElem?_cons_succ]; rfl) (fun K hK => ?_) ?_
                  · obtain ⟨z0, z1, z2, z3⟩ := ZV61.out.cells
                    have f0 : V61.frozen? ⟨gz, 0, none⟩ = false := Lib.frozen_of_heap ZV61.out 0
                    have f1 : V61.frozen? ⟨gz, 1, none⟩ = false := Lib.frozen_of_heap ZV61.out 1
                    have f2 : V61.frozen? ⟨gz, 2, none⟩ = false := Lib.frozen_of_heap ZV61.out 2
                    have f3 : V61.frozen? ⟨gz, 3, none⟩ = false := Lib.frozen_of_heap ZV61.out 3
                    go_simp
                    have MV62 : Hid (Made W ((((V61.setCell ⟨gz, 0, none⟩ (.int .i64 c)).setCell ⟨gz, 1, none⟩ (.int .i64 h)).setCell ⟨gz, 2, none⟩ (.int .i64 x)).setCell ⟨gz, 3, none⟩ (.slice A3 (k + 1 + nR) kA3)) gz c h x A3 (n + 1) kA3 (ls.take k ++ [sqLy] ++ ls.drop k)) := by
                      have h1 : k + 1 + nR = (ls.take k ++ [sqLy] ++ ls.drop k).length := by rw [List.length_append, List.length_append, ← LTK.out, ← LDK.out]; rfl
                      have := made_set (c := c) (h := h) (x := x) BV61.out GZ.out OV61.out h1 ZV61.out
                      show Made _ _ _ _ _ _ _ _ _ _
                      rw [← NSUM.out]; exact this
                    have q0 := (MV62.out.1.cell (p := ⟨w.heap.size, 0, none⟩) lN).trans c0
                    have q1 := (MV62.out.1.cell (p := ⟨w.heap.size, 1, none⟩) lN).trans c1
                    have q2 := (MV62.out.1.cell (p := ⟨w.heap.size, 2, none⟩) lN).trans c2
                    have q3 := (MV62.out.1.cell (p := ⟨w.heap.size, 3, none⟩) lN).trans c3
                    refine hK.out _ _ ⟨q0, q1, q2, q3⟩ (fun hHeld => ?_)
                    clear hK K q0 q1 q2 q3
                    try simp only [Act.put, List.setIfInBounds_toArray, List.set_cons_zero, List.set_cons_succ]
                    refine wpAnyH_done (by kernel_rfl) ?_ _
                    refine NoPanic.normal ?_
                    go_wp2_with fail
                    go_meet
                    exact ⟨_, _, _, rfl, MV62.out⟩
                  exact AllReadyH.nil
                exact AllReadyH.nil
              exact AllReadyH.nil
            exact AllReadyH.nil
          refine AllReadyH.cons (by simp only [List.getElem?_toArray, List.getElem?_cons_zero, List.getElem?_cons_succ]; rfl) (fun K hK => ?_) ?_
          · go_simp
            have BV63 : Hid (Below W.heap.size W (V50.alloc (.cells #[.int .i64 0, .int .i64 0, .int .i64 0, .slice none 0 0] 26))) := BV50.out.alloc BV50.out.size _
            have OV63 := Lib.hid (OV50.out.alloc (.cells #[.int .i64 0, .int .i64 0, .int .i64 0, .slice none 0 0] 26))
            have QV63 := Lib.hid (QV50.out.alloc (.cells #[.int .i64 0, .int .i64 0, .int .i64 0, .slice none 0 0] 26))
            have FV63 := FV50
            obtain ⟨gz, hgz⟩ : ∃ g, g = V50.heap.size := ⟨_, rfl⟩
            have ZV63 : Hid (NB (V50.alloc (.cells #[.int .i64 0, .int .i64 0, .int .i64 0, .slice none 0 0] 26)) gz 0 0 0 (.slice none 0 0)) := by rw [hgz]; exact NB.new V50 0 0 0 _
            have GZ : Hid (W.heap.size ≤ gz) := by rw [hgz]; exact BV50.out.size
            rw [← hgz]
            have q0 := (BV63.out.cell (p := ⟨w.heap.size, 0, none⟩) lN).trans c0
            have q1 := (BV63.out.cell (p := ⟨w.heap.size, 1, none⟩) lN).trans c1
            have q2 := (BV63.out.cell (p := ⟨w.heap.size, 2, none⟩) lN).trans c2
            have q3 := (BV63.out.cell (p := ⟨w.heap.size, 3, none⟩) lN).trans c3
            refine hK.out _ _ ⟨q0, q1, q2, q3⟩ (fun hHeld => ?_)
            clear hK K q0 q1 q2 q3 hgz
            try simp only [Act.put, List.setIfInBounds_toArray, List.set_cons_zero, List.set_cons_succ]
            generalize V50.alloc (.cells #[.int .i64 0, .int .i64 0, .int .i64 0, .slice none 0 0] 26) = V63 at hHeld BV63 OV63 QV63 ZV63 ⊢
            refine wpAnyH_ready (rs := [7]) (by kernel_rfl) (by simp) ?_
            refine AllReadyH.cons (by simp only [List.getElem?_toArray, List.getElem?_cons_zero, List.getElem?_cons_succ]; rfl) (fun K hK => ?_) ?_
            · refine step_layE rfl _ _ rfl W.heap.size (.slice (some ⟨geV50, 0, none⟩) 0 0) rfl OV63.out A k cA (ls.take k) rfl (sq_take (HX.out.below (chain BW.out BV63.out)) k) LTK.out (by omega) BV63.out.size ?_
              intro A1 kA1 V64 hown hgrow hblk
              have BV64 : Hid (Below W.heap.size W V64) := BV63.out.grown hgrow BV63.out.size (fun q hk => (OV63.out.lt q hk).1)
              have OV64 := Lib.hid hown
              have ZV64 := Lib.hid (nb_grow hgrow OV63.out ZV63.out)
              have QV64 := Lib.hid (qb_far hgrow QV63.out FV63.out)
              have FV64 := Lib.hid (far_next FV63.out hblk QV63.out.lt)
              have q0 := (BV64.out.cell (p := ⟨w.heap.size, 0, none⟩) lN).trans c0
              have q1 := (BV64.out.cell (p := ⟨w.heap.size, 1, none⟩) lN).trans c1
              have q2 := (BV64.out.cell (p := ⟨w.heap.size, 2, none⟩) lN).trans c2
              have q3 := (BV64.out.cell (p := ⟨w.heap.size, 3, none⟩) lN).trans c3
              refine hK.out _ _ ⟨q0, q1, q2, q3⟩ (fun hHeld => ?_)
              clear hK K q0 q1 q2 q3 hown hgrow hblk
              try simp only [Act.put, List.setIfInBounds_toArray, List.set_cons_zero, List.set_cons_succ]
              refine wpAnyH_ready (rs := [10]) (by kernel_rfl) (by simp) ?_
              refine AllReadyH.cons (by simp only [List.getElem?_toArray, List.getElem?_cons_zero, List.getElem?_cons_succ]; rfl) (fun K hK => ?_) ?_
              · refine step_lay rfl _ _ rfl W.heap.size (.slice A1 k kA1) k (ls.take k) rfl OV64.out (some ⟨gq, 0, none⟩) 1 1 [sqLy] rfl (rl_q QV64.out) rfl (by omega) BV64.out.size ?_
                intro A2 kA2 V65 hown hgrow hblk
                have BV65 : Hid (Below W.heap.size W V65) := BV64.out.grown hgrow BV64.out.size (fun q hk => (OV64.out.lt q hk).1)
                have OV65 := Lib.hid hown
                have ZV65 := Lib.hid (nb_grow hgrow OV64.out ZV64.out)
                have QV65 := Lib.hid (qb_far hgrow QV64.out FV64.out)
                have FV65 := Lib.hid (far_next FV64.out hblk QV64.out.lt)
                have q0 := (BV65.out.cell (p := ⟨w.heap.size, 0, none⟩) lN).trans c0
                have q1 := (BV65.out.cell (p := ⟨w.heap.size, 1, none⟩) lN).trans c1
                have q2 := (BV65.out.cell (p := ⟨w.heap.size, 2, none⟩) lN).trans c2
                have q3 := (BV65.out.cell (p := ⟨w.heap.size, 3, none⟩) lN).trans c3
                refine hK.out _ _ ⟨q0, q1, q2, q3⟩ (fun hHeld => ?_)
                clear hK K q0 q1 q2 q3 hown hgrow hblk
                try simp only [Act.put, List.setIfInBounds_toArray, List.set_cons_zero, List.set_cons_succ]
                refine wpAnyH_ready (rs := [15]) (by kernel_rfl) (by simp) ?_
                refine AllReadyH.cons (by simp only [List.getElem?_toArray, List.getElem?_cons_zero, List.getElem?_cons_succ]; rfl) (fun K hK => ?_) ?_
                · refine step_lay rfl _ _ rfl W.heap.size (.slice A2 (k + 1) kA2) (k + 1) (ls.take k ++ [sqLy]) rfl OV65.out AR nR cR (ls.drop k) rfl (DR.out _ (HX.out.below (chain BW.out BV65.out))) LDK.out (by omega) BV65.out.size ?_
                  intro A3 kA3 V66 hown hgrow hblk
                  have BV66 : Hid (Below W.heap.size W V66) := BV65.out.grown hgrow BV65.out.size (fun q hk => (OV65.out.lt q hk).1)
                  have OV66 := Lib.hid hown
                  have ZV66 := Lib.hid (nb_grow hgrow OV65.out ZV65.out)
                  have QV66 := Lib.hid (qb_far hgrow QV65.out FV65.out)
                  have FV66 := Lib.hid (far_next FV65.out hblk QV65.out.lt)
                  have q0 := (BV66.out.cell (p := ⟨w.heap.size, 0, none⟩) lN).trans c0
                  have q1 := (BV66.out.cell (p := ⟨w.heap.size, 1, none⟩) lN).trans c1
                  have q2 := (BV66.out.cell (p := ⟨w.heap.size, 2, none⟩) lN).trans c2
                  have q3 := (BV66.out.cell (p := ⟨w.heap.size, 3, none⟩) lN).trans c3
                  refine hK.out _ _ ⟨q0, q1, q2, q3⟩ (fun hHeld => ?_)
                  clear hK K q0 q1 q2 q3 hown hgrow hblk
                  try simp only [Act.put, List.setIfInBounds_toArray, List.set_cons_zero, List.set_cons_succ]
                  refine wpAnyH_take (i := 16) (v := ?vv25) (by simp only [List.getElem?_toArray, List.getElem?_cons_zero, List.getElem?_cons_succ]; rfl) (by kernel_rfl) (by kernel_rfl) (by kernel_rfl) (fun _ _ _ h => h) (Or.inl ⟨by rfl, ?yy25⟩) (by assumption) ?rr25
                  case yy25 => (intro w hSw; (try dsimp only at hSw); go_simp; first | done | with_reducible rfl)
                  simp only [Act.put, List.setIfInBounds_toArray, List.set_cons_zero, List.set_cons_succ]
                  refine wpAnyH_ready (rs := [18]) (by kernel_rfl) (by simp) ?_
                  refine AllReadyH.cons (by simp only [List.getElem?_toArray, List.getElem?_cons_zero, List.getElem?_cons_succ]; rfl) (fun K hK => ?_) ?_
                  · obtain ⟨z0, z1, z2, z3⟩ := ZV66.out.cells
                    have f0 : V66.frozen? ⟨gz, 0, none⟩ = false := Lib.frozen_of_heap ZV66.out 0
                    have f1 : V66.frozen? ⟨gz, 1, none⟩ = false := Lib.frozen_of_heap ZV66.out 1
                    have f2 : V66.frozen? ⟨gz, 2, none⟩ = false := Lib.frozen_of_heap ZV66.out 2
                    have f3 : V66.frozen? ⟨gz, 3, none⟩ = false := Lib.frozen_of_heap ZV66.out 3
                    go_simp
                    have MV67 : Hid (Made W ((((V66.setCell ⟨gz, 0, none⟩ (.int .i64 c)).setCell ⟨gz, 1, none⟩ (.int .i64 h)).setCell ⟨gz, 2, none⟩ (.int .i64 x)).setCell ⟨gz, 3, none⟩ (.slice A3 (k + 1 + nR) kA3)) gz c h x A3 (n + 1) kA3 (ls.take k ++ [sqLy] ++ ls.drop k)) := by
                      have h1 : k + 1 + nR = (ls.take k ++ [sqLy] ++ ls.drop k).length := by rw [List.length_append, List.length_append, ← LTK.out, ← LDK.out]; rfl
                      have := made_set (c := c) (h := h) (x := x) BV66.out GZ.out OV66.out h1 ZV66.out
                      show Made _ _ _ _ _ _ _ _ _ _
                      rw [← NSUM.out]; exact this
                    have q0 := (MV67.out.1.cell (p := ⟨w.heap.size, 0, none⟩) lN).trans c0
                    have q1 := (MV67.out.1.cell (p := ⟨w.heap.size, 1, none⟩) lN).trans c1
                    have q2 := (MV67.out.1.cell (p := ⟨w.heap.size, 2, none⟩) lN).trans c2
                    have q3 := (MV67.out.1.cell (p := ⟨w.heap.size, 3, none⟩) lN).trans c3
                    refine hK.out _ _ ⟨q0, q1, q2, q3⟩ (fun hHeld => ?_)
                    clear hK K q0 q1 q2 q3
                    try simp only [Act.put, List.setIfInBounds_toArray, List.set_cons_zero, List.set_cons_succ]
                    refine wpAnyH_done (by kernel_rfl) ?_ _
                    refine NoPanic.normal ?_
                    go_wp2_with fail
                    go_meet
                    exact ⟨_, _, _, rfl, MV67.out⟩
                  exact AllReadyH.nil
                exact AllReadyH.nil
              exact AllReadyH.nil
            exact AllReadyH.nil
          exact AllReadyH.nil
        refine AllReadyH.cons (by simp only [List.getElem?_toArray, List.getElem?_cons_zero, List.getElem?_cons_succ]; rfl) (fun K hK => ?_) ?_
        · go_simp
          have BV68 : Hid (Below W.heap.size W (V49.alloc (.cells #[.int .i64 0, .int .i64 0, .int .i64 0, .slice none 0 0] 26))) := BV49.out.alloc BV49.out.size _
          have QV68 := Lib.hid (QV49.out.alloc (.cells #[.int .i64 0, .int .i64 0, .int .i64 0, .slice none 0 0] 26))
          obtain ⟨gz, hgz⟩ : ∃ g, g = V49.heap.size := ⟨_, rfl⟩
          have ZV68 : Hid (NB (V49.alloc (.cells #[.int .i64 0, .int .i64 0, .int .i64 0, .slice none 0 0] 26)) gz 0 0 0 (.slice none 0 0)) := by rw [hgz]; exact NB.new V49 0 0 0 _
          have GZ : Hid (W.heap.size ≤ gz) := by rw [hgz]; exact BV49.out.size
          rw [← hgz]
          have q0 := (BV68.out.cell (p := ⟨w.heap.size, 0, none⟩) lN).trans c0
          have q1 := (BV68.out.cell (p := ⟨w.heap.size, 1, none⟩) lN).trans c1
          have q2 := (BV68.out.cell (p := ⟨w.heap.size, 2, none⟩) lN).trans c2
          have q3 := (BV68.out.cell (p := ⟨w.heap.size, 3, none⟩) lN).trans c3
          refine hK.out _ _ ⟨q0, q1, q2, q3⟩ (fun hHeld => ?_)
          clear hK K q0 q1 q2 q3 hgz
          try simp only [Act.put, List.setIfInBounds_toArray, List.set_cons_zero, List.set_cons_succ]
          generalize V49.alloc (.cells #[.int .i64 0, .int .i64 0, .int .i64 0, .slice none 0 0] 26) = V68 at hHeld BV68 QV68 ZV68 ⊢
          refine wpAnyH_ready (rs := [2]) (by kernel_rfl) (by simp) ?_
          refine AllReadyH.cons (by simp only [List.getElem?_toArray, List.getElem?_cons_zero, List.getElem?_cons_succ]; rfl) (fun K hK => ?_) ?_
          · go_simp
            have BV69 : Hid (Below W.heap.size W (V68.alloc (.cells #[] 40))) := BV68.out.alloc BV68.out.size _
            have QV69 := Lib.hid (QV68.out.alloc (.cells #[] 40))
            have ZV69 := Lib.hid (ZV68.out.alloc (.cells #[] 40))
            obtain ⟨geV69, hgeV69⟩ : ∃ g, g = V68.heap.size := ⟨_, rfl⟩
            have OV69 : Hid ((V68.alloc (.cells #[] 40)).ownsRow W.heap.size 40 4 (.slice (some ⟨geV69, 0, none⟩) 0 0) 0 []) := by rw [hgeV69]; exact own_void (heap_alloc_new V68 _) BV68.out.size
            have FV69 : Hid ((Value.slice (some ⟨geV69, 0, none⟩) 0 0).ownBlock ≠ some gq) := fun e => by simp [Value.ownBlock] at e; have := QV68.out.lt; omega
            rw [← hgeV69]
            have q0 := (BV69.out.cell (p := ⟨w.heap.size, 0, none⟩) lN).trans c0
            have q1 := (BV69.out.cell (p := ⟨w.heap.size, 1, none⟩) lN).trans c1
            have q2 := (BV69.out.cell (p := ⟨w.heap.size, 2, none⟩) lN).trans c2
            have q3 := (BV69.out.cell (p := ⟨w.heap.size, 3, none⟩) lN).trans c3
            refine hK.out _ _ ⟨q0, q1, q2, q3⟩ (fun hHeld => ?_)
            clear hK K q0 q1 q2 q3 hgeV69
            try simp only [Act.put, List.setIfInBounds_toArray, List.set_cons_zero, List.set_cons_succ]
            generalize V68.alloc (.cells #[] 40) = V69 at hHeld BV69 QV69 ZV69 OV69 ⊢
            refine wpAnyH_ready (rs := [7]) (by kernel_rfl) (by simp) ?_
            refine AllReadyH.cons (by simp only [List.getElem?_toArray, List.getElem?_cons_zero, List.getElem?_cons_succ]; rfl) (fun K hK => ?_) ?_
            · refine step_layE rfl _ _ rfl W.heap.size (.slice (some ⟨geV69, 0, none⟩) 0 0) rfl OV69.out A k cA (ls.take k) rfl (sq_take (HX.out.below (chain BW.out BV69.out)) k) LTK.out (by omega) BV69.out.size ?_
              intro A1 kA1 V70 hown hgrow hblk
              have BV70 : Hid (Below W.heap.size W V70) := BV69.out.grown hgrow BV69.out.size (fun q hk => (OV69.out.lt q hk).1)
              have OV70 := Lib.hid hown
              have ZV70 := Lib.hid (nb_grow hgrow OV69.out ZV69.out)
              have QV70 := Lib.hid (qb_far hgrow QV69.out FV69.out)
              have FV70 := Lib.hid (far_next FV69.out hblk QV69.out.lt)
              have q0 := (BV70.out.cell (p := ⟨w.heap.size, 0, none⟩) lN).trans c0
              have q1 := (BV70.out.cell (p := ⟨w.heap.size, 1, none⟩) lN).trans c1
              have q2 := (BV70.out.cell (p := ⟨w.heap.size, 2, none⟩) lN).trans c2
              have q3 := (BV70.out.cell (p := ⟨w.heap.size, 3, none⟩) lN).trans c3
              refine hK.out _ _ ⟨q0, q1, q2, q3⟩ (fun hHeld => ?_)
              clear hK K q0 q1 q2 q3 hown hgrow hblk
              try simp only [Act.put, List.setIfInBounds_toArray, List.set_cons_zero, List.set_cons_succ]
              refine wpAnyH_ready (rs := [10]) (by kernel_rfl) (by simp) ?_
              refine AllReadyH.cons (by simp only [List.getElem?_toArray, List.getElem?_cons_zero, List.getElem?_cons_succ]; rfl) (fun K hK => ?_) ?_
              · refine step_lay rfl _ _ rfl W.heap.size (.slice A1 k kA1) k (ls.take k) rfl OV70.out (some ⟨gq, 0, none⟩) 1 1 [sqLy] rfl (rl_q QV70.out) rfl (by omega) BV70.out.size ?_
                intro A2 kA2 V71 hown hgrow hblk
                have BV71 : Hid (Below W.heap.size W V71) := BV70.out.grown hgrow BV70.out.size (fun q hk => (OV70.out.lt q hk).1)
                have OV71 := Lib.hid hown
                have ZV71 := Lib.hid (nb_grow hgrow OV70.out ZV70.out)
                have QV71 := Lib.hid (qb_far hgrow QV70.out FV70.out)
                have FV71 := Lib.hid (far_next FV70.out hblk QV70.out.lt)
                have q0 := (BV71.out.cell (p := ⟨w.heap.size, 0, none⟩) lN).trans c0
                have q1 := (BV71.out.cell (p := ⟨w.heap.size, 1, none⟩) lN).trans c1
                have q2 := (BV71.out.cell (p := ⟨w.heap.size, 2, none⟩) lN).trans c2
                have q3 := (BV71.out.cell (p := ⟨w.heap.size, 3, none⟩) lN).trans c3
                refine hK.out _ _ ⟨q0, q1, q2, q3⟩ (fun hHeld => ?_)
                clear hK K q0 q1 q2 q3 hown hgrow hblk
                try simp only [Act.put, List.setIfInBounds_toArray, List.set_cons_zero, List.set_cons_succ]
                refine wpAnyH_ready (rs := [15]) (by kernel_rfl) (by simp) ?_
                refine AllReadyH.cons (by simp only [List.getElem?_toArray, List.getElem?_cons_zero, List.getElem?_cons_succ]; rfl) (fun K hK => ?_) ?_
                · refine step_lay rfl _ _ rfl W.heap.size (.slice A2 (k + 1) kA2) (k + 1) (ls.take k ++ [sqLy]) rfl OV71.out AR nR cR (ls.drop k) rfl (DR.out _ (HX.out.below (chain BW.out BV71.out))) LDK.out (by omega) BV71.out.size ?_
                  intro A3 kA3 V72 hown hgrow hblk
                  have BV72 : Hid (Below W.heap.size W V72) := BV71.out.grown hgrow BV71.out.size (fun q hk => (OV71.out.lt q hk).1)
                  have OV72 := Lib.hid hown
                  have ZV72 := Lib.hid (nb_grow hgrow OV71.out ZV71.out)
                  have QV72 := Lib.hid (qb_far hgrow QV71.out FV71.out)
                  have FV72 := Lib.hid (far_next FV71.out hblk QV71.out.lt)
                  have q0 := (BV72.out.cell (p := ⟨w.heap.size, 0, none⟩) lN).trans c0
                  have q1 := (BV72.out.cell (p := ⟨w.heap.size, 1, none⟩) lN).trans c1
                  have q2 := (BV72.out.cell (p := ⟨w.heap.size, 2, none⟩) lN).trans c2
                  have q3 := (BV72.out.cell (p := ⟨w.heap.size, 3, none⟩) lN).trans c3
                  refine hK.out _ _ ⟨q0, q1, q2, q3⟩ (fun hHeld => ?_)
                  clear hK K q0 q1 q2 q3 hown hgrow hblk
                  try simp only [Act.put, List.setIfInBounds_toArray, List.set_cons_zero, List.set_cons_succ]
                  refine wpAnyH_take (i := 16) (v := ?vv26) (by simp only [List.getElem?_toArray, List.getElem?_cons_zero, List.getElem?_cons_succ]; rfl) (by kernel_rfl) (by kernel_rfl) (by kernel_rfl) (fun _ _ _ h => h) (Or.inl ⟨by rfl, ?yy26⟩) (by assumption) ?rr26
                  case yy26 => (intro w hSw; (try dsimp only at hSw); go_simp; first | done | with_reducible rfl)
                  simp only [Act.put, List.setIfInBounds_toArray, List.set_cons_zero, List.set_cons_succ]
                  refine wpAnyH_ready (rs := [18]) (by kernel_rfl) (by simp) ?_
                  refine AllReadyH.cons (by simp only [List.getElem?_toArray, List.getElem?_cons_zero, List.getElem?_cons_succ]; rfl) (fun K hK => ?_) ?_
                  · obtain ⟨z0, z1, z2, z3⟩ := ZV72.out.cells
                    have f0 : V72.frozen? ⟨gz, 0, none⟩ = false := Lib.frozen_of_heap ZV72.out 0
                    have f1 : V72.frozen? ⟨gz, 1, none⟩ = false := Lib.frozen_of_heap ZV72.out 1
                    have f2 : V72.frozen? ⟨gz, 2, none⟩ = false := Lib.frozen_of_heap ZV72.out 2
                    have f3 : V72.frozen? ⟨gz, 3, none⟩ = false := Lib.frozen_of_heap ZV72.out 3
                    go_simp
                    have MV73 : Hid (Made W ((((V72.setCell ⟨gz, 0, none⟩ (.int .i64 c)).setCell ⟨gz, 1, none⟩ (.int .i64 h)).setCell ⟨gz, 2, none⟩ (.int .i64 x)).setCell ⟨gz, 3, none⟩ (.slice A3 (k + 1 + nR) kA3)) gz c h x A3 (n + 1) kA3 (ls.take k ++ [sqLy] ++ ls.drop k)) := by
                      have h1 : k + 1 + nR = (ls.take k ++ [sqLy] ++ ls.drop k).length := by rw [List.length_append, List.length_append, ← LTK.out, ← LDK.out]; rfl
                      have := made_set (c := c) (h := h) (x := x) BV72.out GZ.out OV72.out h1 ZV72.out
                      show Made _ _ _ _ _ _ _ _ _ _
                      rw [← NSUM.out]; exact this
                    have q0 := (MV73.out.1.cell (p := ⟨w.heap.size, 0, none⟩) lN).trans c0
                    have q1 := (MV73.out.1.cell (p := ⟨w.heap.size, 1, none⟩) lN).trans c1
                    have q2 := (MV73.out.1.cell (p := ⟨w.heap.size, 2, none⟩) lN).trans c2
                    have q3 := (MV73.out.1.cell (p := ⟨w.heap.size, 3, none⟩) lN).trans c3
                    refine hK.out _ _ ⟨q0, q1, q2, q3⟩ (fun hHeld => ?_)
                    clear hK K q0 q1 q2 q3
                    try simp only [Act.put, List.setIfInBounds_toArray, List.set_cons_zero, List.set_cons_succ]
                    refine wpAnyH_done (by kernel_rfl) ?_ _
                    refine NoPanic.normal ?_
                    go_wp2_with fail
                    go_meet
                    exact ⟨_, _, _, rfl, MV73.out⟩
                  exact AllReadyH.nil
                exact AllReadyH.nil
              exact AllReadyH.nil
            exact AllReadyH.nil
          exact AllReadyH.nil
        exact AllReadyH.nil
      refine AllReadyH.cons (by simp only [List.getElem?_toArray, List.getElem?_cons_zero, List.getElem?_cons_succ]; rfl) (fun K hK => ?_) ?_
      · go_simp
        have BV74 : Hid (Below W.heap.size W (V0.alloc (.cells #[.int .i64 0, .int .i64 0, .int .i64 0, .slice none 0 0] 26))) := BV0.out.alloc BV0.out.size _
        obtain ⟨gz, hgz⟩ : ∃ g, g = V0.heap.size := ⟨_, rfl⟩
        have ZV74 : Hid (NB (V0.alloc (.cells #[.int .i64 0, .int .i64 0, .int .i64 0, .slice none 0 0] 26)) gz 0 0 0 (.slice none 0 0)) := by rw [hgz]; exact NB.new V0 0 0 0 _
        have GZ : Hid (W.heap.size ≤ gz) := by rw [hgz]; exact BV0.out.size
        rw [← hgz]
        have q0 := (BV74.out.cell (p := ⟨w.heap.size, 0, none⟩) lN).trans c0
        have q1 := (BV74.out.cell (p := ⟨w.heap.size, 1, none⟩) lN).trans c1
        have q2 := (BV74.out.cell (p := ⟨w.heap.size, 2, none⟩) lN).trans c2
        have q3 := (BV74.out.cell (p := ⟨w.heap.size, 3, none⟩) lN).trans c3
        refine hK.out _ _ ⟨q0, q1, q2, q3⟩ (fun hHeld => ?_)
        clear hK K q0 q1 q2 q3 hgz
        try simp only [Act.put, List.setIfInBounds_toArray, List.set_cons_zero, List.set_cons_succ]
        generalize V0.alloc (.cells #[.int .i64 0, .int .i64 0, .int .i64 0, .slice none 0 0] 26) = V74 at hHeld BV74 ZV74 ⊢
        refine wpAnyH_ready (rs := [2, 9]) (by kernel_rfl) (by simp) ?_
        refine AllReadyH.cons (by simp only [List.getElem?_toArray, List.getElem?_cons_zero, List.getElem?_cons_succ]; rfl) (fun K hK => ?_) ?_
        · go_simp
          have BV75 : Hid (Below W.heap.size W (V74.alloc (.cells #[] 40))) := BV74.out.alloc BV74.out.size _
          have ZV75 := Lib.hid (ZV74.out.alloc (.cells #[] 40))
          obtain ⟨geV75, hgeV75⟩ : ∃ g, g = V74.heap.size := ⟨_, rfl⟩
          have OV75 : Hid ((V74.alloc (.cells #[] 40)).ownsRow W.heap.size 40 4 (.slice (some ⟨geV75, 0, none⟩) 0 0) 0 []) := by rw [hgeV75]; exact own_void (heap_alloc_new V74 _) BV74.out.size
          rw [← hgeV75]
          have q0 := (BV75.out.cell (p := ⟨w.heap.size, 0, none⟩) lN).trans c0
          have q1 := (BV75.out.cell (p := ⟨w.heap.size, 1, none⟩) lN).trans c1
          have q2 := (BV75.out.cell (p := ⟨w.heap.size, 2, none⟩) lN).trans c2
          have q3 := (BV75.out.cell (p := ⟨w.heap.size, 3, none⟩) lN).trans c3
          refine hK.out _ _ ⟨q0, q1, q2, q3⟩ (fun hHeld => ?_)
          clear hK K q0 q1 q2 q3 hgeV75
          try simp only [Act.put, List.setIfInBounds_toArray, List.set_cons_zero, List.set_cons_succ]
          generalize V74.alloc (.cells #[] 40) = V75 at hHeld BV75 ZV75 OV75 ⊢
          refine wpAnyH_ready (rs := [7, 9]) (by kernel_rfl) (by simp) ?_
          refine AllReadyH.cons (by simp only [List.getElem?_toArray, List.getElem?_cons_zero, List.getElem?_cons_succ]; rfl) (fun K hK => ?_) ?_
          · refine step_layE rfl _ _ rfl W.heap.size (.slice (some ⟨geV75, 0, none⟩) 0 0) rfl OV75.out A k cA (ls.take k) rfl (sq_take (HX.out.below (chain BW.out BV75.out)) k) LTK.out (by omega) BV75.out.size ?_
            intro A1 kA1 V76 hown hgrow hblk
            have BV76 : Hid (Below W.heap.size W V76) := BV75.out.grown hgrow BV75.out.size (fun q hk => (OV75.out.lt q hk).1)
            have OV76 := Lib.hid hown
            have ZV76 := Lib.hid (nb_grow hgrow OV75.out ZV75.out)
            have q0 := (BV76.out.cell (p := ⟨w.heap.size, 0, none⟩) lN).trans c0
            have q1 := (BV76.out.cell (p := ⟨w.heap.size, 1, none⟩) lN).trans c1
            have q2 := (BV76.out.cell (p := ⟨w.heap.size, 2, none⟩) lN).trans c2
            have q3 := (BV76.out.cell (p := ⟨w.heap.size, 3, none⟩) lN).trans c3
            refine hK.out _ _ ⟨q0, q1, q2, q3⟩ (fun hHeld => ?_)
            clear hK K q0 q1 q2 q3 hown hgrow hblk
            try simp only [Act.put, List.setIfInBounds_toArray, List.set_cons_zero, List.set_cons_succ]
            refine wpAnyH_ready (rs := [9]) (by kernel_rfl) (by simp) ?_
            refine AllReadyH.cons (by simp only [List.getElem?_toArray, List.getElem?_cons_zero, List.getElem?_cons_succ]; rfl) (fun K hK => ?_) ?_
            · go_simp
              have BV77 : Hid (Below W.heap.size W (V76.alloc (.cells #[.int .i64 2, .int .i64 0, .int .i64 0, .int .i64 0] 40))) := BV76.out.alloc BV76.out.size _
              have OV77 := Lib.hid (OV76.out.alloc (.cells #[.int .i64 2, .int .i64 0, .int .i64 0, .int .i64 0] 40))
              have ZV77 := Lib.hid (ZV76.out.alloc (.cells #[.int .i64 2, .int .i64 0, .int .i64 0, .int .i64 0] 40))
              obtain ⟨gq, hgq⟩ : ∃ g, g = V76.heap.size := ⟨_, rfl⟩
              have QV77 : Hid (QB (V76.alloc (.cells #[.int .i64 2, .int .i64 0, .int .i64 0, .int .i64 0] 40)) gq sqLy) := by rw [hgq]; exact qb_new V76 2 0 0 0
              have FV77 : Hid ((Value.slice A1 k kA1).ownBlock ≠ some gq) := fun e => by have := (OV76.out.lt _ e).2; omega
              rw [← hgq]
              have q0 := (BV77.out.cell (p := ⟨w.heap.size, 0, none⟩) lN).trans c0
              have q1 := (BV77.out.cell (p := ⟨w.heap.size, 1, none⟩) lN).trans c1
              have q2 := (BV77.out.cell (p := ⟨w.heap.size, 2, none⟩) lN).trans c2
              have q3 := (BV77.out.cell (p := ⟨w.heap.size, 3, none⟩) lN).trans c3
              refine hK.out _ _ ⟨q0, q1, q2, q3⟩ (fun hHeld => ?_)
              clear hK K q0 q1 q2 q3 hgq
              try simp only [Act.put, List.setIfInBounds_toArray, List.set_cons_zero, List.set_cons_succ]
              generalize V76.alloc (.cells #[.int .i64 2, .int .i64 0, .int .i64 0, .int .i64 0] 40) = V77 at hHeld BV77 OV77 ZV77 QV77 ⊢
              refine wpAnyH_ready (rs := [10]) (by kernel_rfl) (by simp) ?_
              refine AllReadyH.cons (by simp only [List.getElem?_toArray, List.getElem?_cons_zero, List.getElem?_cons_succ]; rfl) (fun K hK => ?_) ?_
              · refine step_lay rfl _ _ rfl W.heap.size (.slice A1 k kA1) k (ls.take k) rfl OV77.out (some ⟨gq, 0, none⟩) 1 1 [sqLy] rfl (rl_q QV77.out) rfl (by omega) BV77.out.size ?_
                intro A2 kA2 V78 hown hgrow hblk
                have BV78 : Hid (Below W.heap.size W V78) := BV77.out.grown hgrow BV77.out.size (fun q hk => (OV77.out.lt q hk).1)
                have OV78 := Lib.hid hown
                have ZV78 := Lib.hid (nb_grow hgrow OV77.out ZV77.out)
                have QV78 := Lib.hid (qb_far hgrow QV77.out FV77.out)
                have FV78 := Lib.hid (far_next FV77.out hblk QV77.out.lt)
                have q0 := (BV78.out.cell (p := ⟨w.heap.size, 0, none⟩) lN).trans c0
                have q1 := (BV78.out.cell (p := ⟨w.heap.size, 1, none⟩) lN).trans c1
                have q2 := (BV78.out.cell (p := ⟨w.heap.size, 2, none⟩) lN).trans c2
                have q3 := (BV78.out.cell (p := ⟨w.heap.size, 3, none⟩) lN).trans c3
                refine hK.out _ _ ⟨q0, q1, q2, q3⟩ (fun hHeld => ?_)
                clear hK K q0 q1 q2 q3 hown hgrow hblk
                try simp only [Act.put, List.setIfInBounds_toArray, List.set_cons_zero, List.set_cons_succ]
                refine wpAnyH_ready (rs := [15]) (by kernel_rfl) (by simp) ?_
                refine AllReadyH.cons (by simp only [List.getElem?_toArray, List.getElem?_cons_zero, List.getElem?_cons_succ]; rfl) (fun K hK => ?_) ?_
                · refine step_lay rfl _ _ rfl W.heap.size (.slice A2 (k + 1) kA2) (k + 1) (ls.take k ++ [sqLy]) rfl OV78.out AR nR cR (ls.drop k) rfl (DR.out _ (HX.out.below (chain BW.out BV78.out))) LDK.out (by omega) BV78.out.size ?_
                  intro A3 kA3 V79 hown hgrow hblk
                  have BV79 : Hid (Below W.heap.size W V79) := BV78.out.grown hgrow BV78.out.size (fun q hk => (OV78.out.lt q hk).1)
                  have OV79 := Lib.hid hown
                  have ZV79 := Lib.hid (nb_grow hgrow OV78.out ZV78.out)
                  have QV79 := Lib.hid (qb_far hgrow QV78.out FV78.out)
                  have FV79 := Lib.hid (far_next FV78.out hblk QV78.out.lt)
                  have q0 := (BV79.out.cell (p := ⟨w.heap.size, 0, none⟩) lN).trans c0
                  have q1 := (BV79.out.cell (p := ⟨w.heap.size, 1, none⟩) lN).trans c1
                  have q2 := (BV79.out.cell (p := ⟨w.heap.size, 2, none⟩) lN).trans c2
                  have q3 := (BV79.out.cell (p := ⟨w.heap.size, 3, none⟩) lN).trans c3
                  refine hK.out _ _ ⟨q0, q1, q2, q3⟩ (fun hHeld => ?_)
                  clear hK K q0 q1 q2 q3 hown hgrow hblk
                  try simp only [Act.put, List.setIfInBounds_toArray, List.set_cons_zero, List.set_cons_succ]
                  refine wpAnyH_take (i := 16) (v := ?vv27) (by simp only [List.getElem?_toArray, List.getElem?_cons_zero, List.getElem?_cons_succ]; rfl) (by kernel_rfl) (by kernel_rfl) (by kernel_rfl) (fun _ _ _ h => h) (Or.inl ⟨by rfl, ?yy27⟩) (by assumption) ?rr27
                  case yy27 => (intro w hSw; (try dsimp only at hSw); go_simp; first | done | with_reducible rfl)
                  simp only [Act.put, List.setIfInBounds_toArray, List.set_cons_zero, List.set_cons_succ]
                  refine wpAnyH_ready (rs := [18]) (by kernel_rfl) (by simp) ?_
                  refine AllReadyH.cons (by simp only [List.getElem?_toArray, List.getElem?_cons_zero, List.getElem?_cons_succ]; rfl) (fun K hK => ?_) ?_
                  · obtain ⟨z0, z1, z2, z3⟩ := ZV79.out.cells
                    have f0 : V79.frozen? ⟨gz, 0, none⟩ = false := Lib.frozen_of_heap ZV79.out 0
                    have f1 : V79.frozen? ⟨gz, 1, none⟩ = false := Lib.frozen_of_heap ZV79.out 1
                    have f2 : V79.frozen? ⟨gz, 2, none⟩ = false := Lib.frozen_of_heap ZV79.out 2
                    have f3 : V79.frozen? ⟨gz, 3, none⟩ = false := Lib.frozen_of_heap ZV79.out 3
                    go_simp
                    have MV80 : Hid (Made W ((((V79.setCell ⟨gz, 0, none⟩ (.int .i64 c)).setCell ⟨gz, 1, none⟩ (.int .i64 h)).setCell ⟨gz, 2, none⟩ (.int .i64 x)).setCell ⟨gz, 3, none⟩ (.slice A3 (k + 1 + nR) kA3)) gz c h x A3 (n + 1) kA3 (ls.take k ++ [sqLy] ++ ls.drop k)) := by
                      have h1 : k + 1 + nR = (ls.take k ++ [sqLy] ++ ls.drop k).length := by rw [List.length_append, List.length_append, ← LTK.out, ← LDK.out]; rfl
                      have := made_set (c := c) (h := h) (x := x) BV79.out GZ.out OV79.out h1 ZV79.out
                      show Made _ _ _ _ _ _ _ _ _ _
                      rw [← NSUM.out]; exact this
                    have q0 := (MV80.out.1.cell (p := ⟨w.heap.size, 0, none⟩) lN).trans c0
                    have q1 := (MV80.out.1.cell (p := ⟨w.heap.size, 1, none⟩) lN).trans c1
                    have q2 := (MV80.out.1.cell (p := ⟨w.heap.size, 2, none⟩) lN).trans c2
                    have q3 := (MV80.out.1.cell (p := ⟨w.heap.size, 3, none⟩) lN).trans c3
                    refine hK.out _ _ ⟨q0, q1, q2, q3⟩ (fun hHeld => ?_)
                    clear hK K q0 q1 q2 q3
                    try simp only [Act.put, List.setIfInBounds_toArray, List.set_cons_zero, List.set_cons_succ]
                    refine wpAnyH_done (by kernel_rfl) ?_ _
                    refine NoPanic.normal ?_
                    go_wp2_with fail
                    go_meet
                    exact ⟨_, _, _, rfl, MV80.out⟩
                  exact AllReadyH.nil
                exact AllReadyH.nil
              exact AllReadyH.nil
            exact AllReadyH.nil
          refine AllReadyH.cons (by simp only [List.getElem?_toArray, List.getElem?_cons_zero, List.getElem?_cons_succ]; rfl) (fun K hK => ?_) ?_
          · go_simp
            have BV81 : Hid (Below W.heap.size W (V75.alloc (.cells #[.int .i64 2, .int .i64 0, .int .i64 0, .int .i64 0] 40))) := BV75.out.alloc BV75.out.size _
            have OV81 := Lib.hid (OV75.out.alloc (.cells #[.int .i64 2, .int .i64 0, .int .i64 0, .int .i64 0] 40))
            have ZV81 := Lib.hid (ZV75.out.alloc (.cells #[.int .i64 2, .int .i64 0, .int .i64 0, .int .i64 0] 40))
            obtain ⟨gq, hgq⟩ : ∃ g, g = V75.heap.size := ⟨_, rfl⟩
            have QV81 : Hid (QB (V75.alloc (.cells #[.int .i64 2, .int .i64 0, .int .i64 0, .int .i64 0] 40)) gq sqLy) := by rw [hgq]; exact qb_new V75 2 0 0 0
            have FV81 : Hid ((Value.slice (some ⟨geV75, 0, none⟩) 0 0).ownBlock ≠ some gq) := fun e => by have := (OV75.out.lt _ e).2; omega
            rw [← hgq]
            have q0 := (BV81.out.cell (p := ⟨w.heap.size, 0, none⟩) lN).trans c0
            have q1 := (BV81.out.cell (p := ⟨w.heap.size, 1, none⟩) lN).trans c1
            have q2 := (BV81.out.cell (p := ⟨w.heap.size, 2, none⟩) lN).trans c2
            have q3 := (BV81.out.cell (p := ⟨w.heap.size, 3, none⟩) lN).trans c3
            refine hK.out _ _ ⟨q0, q1, q2, q3⟩ (fun hHeld => ?_)
            clear hK K q0 q1 q2 q3 hgq
            try simp only [Act.put, List.setIfInBounds_toArray, List.set_cons_zero, List.set_cons_succ]
            generalize V75.alloc (.cells #[.int .i64 2, .int .i64 0, .int .i64 0, .int .i64 0] 40) = V81 at hHeld BV81 OV81 ZV81 QV81 ⊢
            refine wpAnyH_ready (rs := [7]) (by kernel_rfl) (by simp) ?_
            refine AllReadyH.cons (by simp only [List.getElem?_toArray, List.getElem?_cons_zero, List.getElem?_cons_succ]; rfl) (fun K hK => ?_) ?_
            · refine step_layE rfl _ _ rfl W.heap.size (.slice (some ⟨geV75, 0, none⟩) 0 0) rfl OV81.out A k cA (ls.take k) rfl (sq_take (HX.out.below (chain BW.out BV81.out)) k) LTK.out (by omega) BV81.out.size ?_
              intro A1 kA1 V82 hown hgrow hblk
              have BV82 : Hid (Below W.heap.size W V82) := BV81.out.grown hgrow BV81.out.size (fun q hk => (OV81.out.lt q hk).1)
              have OV82 := Lib.hid hown
              have ZV82 := Lib.hid (nb_grow hgrow OV81.out ZV81.out)
              have QV82 := Lib.hid (qb_far hgrow QV81.out FV81.out)
              have FV82 := Lib.hid (far_next FV81.out hblk QV81.out.lt)
              have q0 := (BV82.out.cell (p := ⟨w.heap.size, 0, none⟩) lN).trans c0
              have q1 := (BV82.out.cell (p := ⟨w.heap.size, 1, none⟩) lN).trans c1
              have q2 := (BV82.out.cell (p := ⟨w.heap.size, 2, none⟩) lN).trans c2
              have q3 := (BV82.out.cell (p := ⟨w.heap.size, 3, none⟩) lN).trans c3
              refine hK.out _ _ ⟨q0, q1, q2, q3⟩ (fun hHeld => ?_)
              clear hK K q0 q1 q2 q3 hown hgrow hblk
              try simp only [Act.put, List.setIfInBounds_toArray, List.set_cons_zero, List.set_cons_succ]
              refine wpAnyH_ready (rs := [10]) (by kernel_rfl) (by simp) ?_
              refine AllReadyH.cons (by simp only [List.getElem?_toArray, List.getElem?_cons_zero, List.getElem?_cons_succ]; rfl) (fun K hK => ?_) ?_
              · refine step_lay rfl _ _ rfl W.heap.size (.slice A1 k kA1) k (ls.take k) rfl OV82.out (some ⟨gq, 0, none⟩) 1 1 [sqLy] rfl (rl_q QV82.out) rfl (by omega) BV82.out.size ?_
                intro A2 kA2 V83 hown hgrow hblk
                have BV83 : Hid (Below W.heap.size W V83) := BV82.out.grown hgrow BV82.out.size (fun q hk => (OV82.out.lt q hk).1)
                have OV83 := Lib.hid hown
                have ZV83 := Lib.hid (nb_grow hgrow OV82.out ZV82.out)
                have QV83 := Lib.hid (qb_far hgrow QV82.out FV82.out)
                have FV83 := Lib.hid (far_next FV82.out hblk QV82.out.lt)
                have q0 := (BV83.out.cell (p := ⟨w.heap.size, 0, none⟩) lN).trans c0
                have q1 := (BV83.out.cell (p := ⟨w.heap.size, 1, none⟩) lN).trans c1
                have q2 := (BV83.out.cell (p := ⟨w.heap.size, 2, none⟩) lN).trans c2
                have q3 := (BV83.out.cell (p := ⟨w.heap.size, 3, none⟩) lN).trans c3
                refine hK.out _ _ ⟨q0, q1, q2, q3⟩ (fun hHeld => ?_)
                clear hK K q0 q1 q2 q3 hown hgrow hblk
                try simp only [Act.put, List.setIfInBounds_toArray, List.set_cons_zero, List.set_cons_succ]
                refine wpAnyH_ready (rs := [15]) (by kernel_rfl) (by simp) ?_
                refine AllReadyH.cons (by simp only [List.getElem?_toArray, List.getElem?_cons_zero, List.getElem?_cons_succ]; rfl) (fun K hK => ?_) ?_
                · refine step_lay rfl _ _ rfl W.heap.size (.slice A2 (k + 1) kA2) (k + 1) (ls.take k ++ [sqLy]) rfl OV83.out AR nR cR (ls.drop k) rfl (DR.out _ (HX.out.below (chain BW.out BV83.out))) LDK.out (by omega) BV83.out.size ?_
                  intro A3 kA3 V84 hown hgrow hblk
                  have BV84 : Hid (Below W.heap.size W V84) := BV83.out.grown hgrow BV83.out.size (fun q hk => (OV83.out.lt q hk).1)
                  have OV84 := Lib.hid hown
                  have ZV84 := Lib.hid (nb_grow hgrow OV83.out ZV83.out)
                  have QV84 := Lib.hid (qb_far hgrow QV83.out FV83.out)
                  have FV84 := Lib.hid (far_next FV83.out hblk QV83.out.lt)
                  have q0 := (BV84.out.cell (p := ⟨w.heap.size, 0, none⟩) lN).trans c0
                  have q1 := (BV84.out.cell (p := ⟨w.heap.size, 1, none⟩) lN).trans c1
                  have q2 := (BV84.out.cell (p := ⟨w.heap.size, 2, none⟩) lN).trans c2
                  have q3 := (BV84.out.cell (p := ⟨w.heap.size, 3, none⟩) lN).trans c3
                  refine hK.out _ _ ⟨q0, q1, q2, q3⟩ (fun hHeld => ?_)
                  clear hK K q0 q1 q2 q3 hown hgrow hblk
                  try simp only [Act.put, List.setIfInBounds_toArray, List.set_cons_zero, List.set_cons_succ]
                  refine wpAnyH_take (i := 16) (v := ?vv28) (by simp only [List.getElem?_toArray, List.getElem?_cons_zero, List.getElem?_cons_succ]; rfl) (by kernel_rfl) (by kernel_rfl) (by kernel_rfl) (fun _ _ _ h => h) (Or.inl ⟨by rfl, ?yy28⟩) (by assumption) ?rr28
                  case yy28 => (intro w hSw; (try dsimp only at hSw); go_simp; first | done | with_reducible rfl)
                  simp only [Act.put, List.setIfInBounds_toArray, List.set_cons_zero, List.set_cons_succ]
                  refine wpAnyH_ready (rs := [18]) (by kernel_rfl) (by simp) ?_
                  refine AllReadyH.cons (by simp only [List.getElem?_toArray, List.getElem?_cons_zero, List.getElem?_cons_succ]; rfl) (fun K hK => ?_) ?_
                  · obtain ⟨z0, z1, z2, z3⟩ := ZV84.out.cells
                    have f0 : V84.frozen? ⟨gz, 0, none⟩ = false := Lib.frozen_of_heap ZV84.out 0
                    have f1 : V84.frozen? ⟨gz, 1, none⟩ = false := Lib.frozen_of_heap ZV84.out 1
                    have f2 : V84.frozen? ⟨gz, 2, none⟩ = false := Lib.frozen_of_heap ZV84.out 2
                    have f3 : V84.frozen? ⟨gz, 3, none⟩ = false := Lib.frozen_of_heap ZV84.out 3
                    go_simp
                    have MV85 : Hid (Made W ((((V84.setCell ⟨gz, 0, none⟩ (.int .i64 c)).setCell ⟨gz, 1, none⟩ (.int .i64 h)).setCell ⟨gz, 2, none⟩ (.int .i64 x)).setCell ⟨gz, 3, none⟩ (.slice A3 (k + 1 + nR) kA3)) gz c h x A3 (n + 1) kA3 (ls.take k ++ [sqLy] ++ ls.drop k)) := by
                      have h1 : k + 1 + nR = (ls.take k ++ [sqLy] ++ ls.drop k).length := by rw [List.length_append, List.length_append, ← LTK.out, ← LDK.out]; rfl
                      have := made_set (c := c) (h := h) (x := x) BV84.out GZ.out OV84.out h1 ZV84.out
                      show Made _ _ _ _ _ _ _ _ _ _
                      rw [← NSUM.out]; exact this
                    have q0 := (MV85.out.1.cell (p := ⟨w.heap.size, 0, none⟩) lN).trans c0
                    have q1 := (MV85.out.1.cell (p := ⟨w.heap.size, 1, none⟩) lN).trans c1
                    have q2 := (MV85.out.1.cell (p := ⟨w.heap.size, 2, none⟩) lN).trans c2
                    have q3 := (MV85.out.1.cell (p := ⟨w.heap.size, 3, none⟩) lN).trans c3
                    refine hK.out _ _ ⟨q0, q1, q2, q3⟩ (fun hHeld => ?_)
                    clear hK K q0 q1 q2 q3
                    try simp only [Act.put, List.setIfInBounds_toArray, List.set_cons_zero, List.set_cons_succ]
                    refine wpAnyH_done (by kernel_rfl) ?_ _
                    refine NoPanic.normal ?_
                    go_wp2_with fail
                    go_meet
                    exact ⟨_, _, _, rfl, MV85.out⟩
                  exact AllReadyH.nil
                exact AllReadyH.nil
              exact AllReadyH.nil
            exact AllReadyH.nil
          exact AllReadyH.nil
        refine AllReadyH.cons (by simp only [List.getElem?_toArray, List.getElem?_cons_zero, List.getElem?_cons_succ]; rfl) (fun K hK => ?_) ?_
        · go_simp
          have BV86 : Hid (Below W.heap.size W (V74.alloc (.cells #[.int .i64 2, .int .i64 0, .int .i64 0, .int .i64 0] 40))) := BV74.out.alloc BV74.out.size _
          have ZV86 := Lib.hid (ZV74.out.alloc (.cells #[.int .i64 2, .int .i64 0, .int .i64 0, .int .i64 0] 40))
          obtain ⟨gq, hgq⟩ : ∃ g, g = V74.heap.size := ⟨_, rfl⟩
          have QV86 : Hid (QB (V74.alloc (.cells #[.int .i64 2, .int .i64 0, .int .i64 0, .int .i64 0] 40)) gq sqLy) := by rw [hgq]; exact qb_new V74 2 0 0 0
          rw [← hgq]
          have q0 := (BV86.out.cell (p := ⟨w.heap.size, 0, none⟩) lN).trans c0
          have q1 := (BV86.out.cell (p := ⟨w.heap.size, 1, none⟩) lN).trans c1
          have q2 := (BV86.out.cell (p := ⟨w.heap.size, 2, none⟩) lN).trans c2
          have q3 := (BV86.out.cell (p := ⟨w.heap.size, 3, none⟩) lN).trans c3
          refine hK.out _ _ ⟨q0, q1, q2, q3⟩ (fun hHeld => ?_)
          clear hK K q0 q1 q2 q3 hgq
          try simp only [Act.put, List.setIfInBounds_toArray, List.set_cons_zero, List.set_cons_succ]
          generalize V74.alloc (.cells #[.int .i64 2, .int .i64 0, .int .i64 0, .int .i64 0] 40) = V86 at hHeld BV86 ZV86 QV86 ⊢
          refine wpAnyH_ready (rs := [2]) (by kernel_rfl) (by simp) ?_
          refine AllReadyH.cons (by simp only [List.getElem?_toArray, List.getElem?_cons_zero, List.getElem?_cons_succ]; rfl) (fun K hK => ?_) ?_
          · go_simp
            have BV87 : Hid (Below W.heap.size W (V86.alloc (.cells #[] 40))) := BV86.out.alloc BV86.out.size _
            have QV87 := Lib.hid (QV86.out.alloc (.cells #[] 40))
            have ZV87 := Lib.hid (ZV86.out.alloc (.cells #[] 40))
            obtain ⟨geV87, hgeV87⟩ : ∃ g, g = V86.heap.size := ⟨_, rfl⟩
            have OV87 : Hid ((V86.alloc (.cells #[] 40)).ownsRow W.heap.size 40 4 (.slice (some ⟨geV87, 0, none⟩) 0 0) 0 []) := by rw [hgeV87]; exact own_void (heap_alloc_new V86 _) BV86.out.size
            have FV87 : Hid ((Value.slice (some ⟨geV87, 0, none⟩) 0 0).ownBlock ≠ some gq) := fun e => by simp [Value.ownBlock] at e; have := QV86.out.lt; omega
            rw [← hgeV87]
            have q0 := (BV87.out.cell (p := ⟨w.heap.size, 0, none⟩) lN).trans c0
            have q1 := (BV87.out.cell (p := ⟨w.heap.size, 1, none⟩) lN).trans c1
            have q2 := (BV87.out.cell (p := ⟨w.heap.size, 2, none⟩) lN).trans c2
            have q3 := (BV87.out.cell (p := ⟨w.heap.size, 3, none⟩) lN).trans c3
            refine hK.out _ _ ⟨q0, q1, q2, q3⟩ (fun hHeld => ?_)
            clear hK K q0 q1 q2 q3 hgeV87
            try simp only [Act.put, List.setIfInBounds_toArray, List.set_cons_zero, List.set_cons_succ]
            generalize V86.alloc (.cells #[] 40) = V87 at hHeld BV87 QV87 ZV87 OV87 ⊢
            refine wpAnyH_ready (rs := [7]) (by kernel_rfl) (by simp) ?_
            refine AllReadyH.cons (by simp only [List.getElem?_toArray, List.getElem?_cons_zero, List.getElem?_cons_succ]; rfl) (fun K hK => ?_) ?_
            · refine step_layE rfl _ _ rfl W.heap.size (.slice (some ⟨geV87, 0, none⟩) 0 0) rfl OV87.out A k cA (ls.take k) rfl (sq_take (HX.out.below (chain BW.out BV87.out)) k) LTK.out (by omega) BV87.out.size ?_
              intro A1 kA1 V88 hown hgrow hblk
              have BV88 : Hid (Below W.heap.size W V88) := BV87.out.grown hgrow BV87.out.size (fun q hk => (OV87.out.lt q hk).1)
              have OV88 := Lib.hid hown
              have ZV88 := Lib.hid (nb_grow hgrow OV87.out ZV87.out)
              have QV88 := Lib.hid (qb_far hgrow QV87.out FV87.out)
              have FV88 := Lib.hid (far_next FV87.out hblk QV87.out.lt)
              have q0 := (BV88.out.cell (p := ⟨w.heap.size, 0, none⟩) lN).trans c0
              have q1 := (BV88.out.cell (p := ⟨w.heap.size, 1, none⟩) lN).trans c1
              have q2 := (BV88.out.cell (p := ⟨w.heap.size, 2, none⟩) lN).trans c2
              have q3 := (BV88.out.cell (p := ⟨w.heap.size, 3, none⟩) lN).trans c3
              refine hK.out _ _ ⟨q0, q1, q2, q3⟩ (fun hHeld => ?_)
              clear hK K q0 q1 q2 q3 hown hgrow hblk
              try simp only [Act.put, List.setIfInBounds_toArray, List.set_cons_zero, List.set_cons_succ]
              refine wpAnyH_ready (rs := [10]) (by kernel_rfl) (by simp) ?_
              refine AllReadyH.cons (by simp only [List.getElem?_toArray, List.getElem?_cons_zero, List.getElem?_cons_succ]; rfl) (fun K hK => ?_) ?_
              · refine step_lay rfl _ _ rfl W.heap.size (.slice A1 k kA1) k (ls.take k) rfl OV88.out (some ⟨gq, 0, none⟩) 1 1 [sqLy] rfl (rl_q QV88.out) rfl (by omega) BV88.out.size ?_
                intro A2 kA2 V89 hown hgrow hblk
                have BV89 : Hid (Below W.heap.size W V89) := BV88.out.grown hgrow BV88.out.size (fun q hk => (OV88.out.lt q hk).1)
                have OV89 := Lib.hid hown
                have ZV89 := Lib.hid (nb_grow hgrow OV88.out ZV88.out)
                have QV89 := Lib.hid (qb_far hgrow QV88.out FV88.out)
                have FV89 := Lib.hid (far_next FV88.out hblk QV88.out.lt)
                have q0 := (BV89.out.cell (p := ⟨w.heap.size, 0, none⟩) lN).trans c0
                have q1 := (BV89.out.cell (p := ⟨w.heap.size, 1, none⟩) lN).trans c1
                have q2 := (BV89.out.cell (p := ⟨w.heap.size, 2, none⟩) lN).trans c2
                have q3 := (BV89.out.cell (p := ⟨w.heap.size, 3, none⟩) lN).trans c3
                refine hK.out _ _ ⟨q0, q1, q2, q3⟩ (fun hHeld => ?_)
                clear hK K q0 q1 q2 q3 hown hgrow hblk
                try simp only [Act.put, List.setIfInBounds_toArray, List.set_cons_zero, List.set_cons_succ]
                refine wpAnyH_ready (rs := [15]) (by kernel_rfl) (by simp) ?_
                refine AllReadyH.cons (by simp only [List.getElem?_toArray, List.getElem?_cons_zero, List.getElem?_cons_succ]; rfl) (fun K hK => ?_) ?_
                · refine step_lay rfl _ _ rfl W.heap.size (.slice A2 (k + 1) kA2) (k + 1) (ls.take k ++ [sqLy]) rfl OV89.out AR nR cR (ls.drop k) rfl (DR.out _ (HX.out.below (chain BW.out BV89.out))) LDK.out (by omega) BV89.out.size ?_
                  intro A3 kA3 V90 hown hgrow hblk
                  have BV90 : Hid (Below W.heap.size W V90) := BV89.out.grown hgrow BV89.out.size (fun q hk => (OV89.out.lt q hk).1)
                  have OV90 := Lib.hid hown
                  have ZV90 := Lib.hid (nb_grow hgrow OV89.out ZV89.out)
                  have QV90 := Lib.hid (qb_far hgrow QV89.out FV89.out)
                  have FV90 := Lib.hid (far_next FV89.out hblk QV89.out.lt)
                  have q0 := (BV90.out.cell (p := ⟨w.heap.size, 0, none⟩) lN).trans c0
                  have q1 := (BV90.out.cell (p := ⟨w.heap.size, 1, none⟩) lN).trans c1
                  have q2 := (BV90.out.cell (p := ⟨w.heap.size, 2, none⟩) lN).trans c2
                  have q3 := (BV90.out.cell (p := ⟨w.heap.size, 3, none⟩) lN).trans c3
                  refine hK.out _ _ ⟨q0, q1, q2, q3⟩ (fun hHeld => ?_)
                  clear hK K q0 q1 q2 q3 hown hgrow hblk
                  try simp only [Act.put, List.setIfInBounds_toArray, List.set_cons_zero, List.set_cons_succ]
                  refine wpAnyH_take (i := 16) (v := ?vv29) (by simp only [List.getElem?_toArray, List.getElem?_cons_zero, List.getElem?_cons_succ]; rfl) (by kernel_rfl) (by kernel_rfl) (by kernel_rfl) (fun _ _ _ h => h) (Or.inl ⟨by rfl, ?yy29⟩) (by assumption) ?rr29
                  case yy29 => (intro w hSw; (try dsimp only at hSw); go_simp; first | done | with_reducible rfl)
                  simp only [Act.put, List.setIfInBounds_toArray, List.set_cons_zero, List.set_cons_succ]
                  refine wpAnyH_ready (rs := [18]) (by kernel_rfl) (by simp) ?_
                  refine AllReadyH.cons (by simp only [List.getElem?_toArray, List.getElem?_cons_zero, List.getElem?_cons_succ]; rfl) (fun K hK => ?_) ?_
                  · obtain ⟨z0, z1, z2, z3⟩ := ZV90.out.cells
                    have f0 : V90.frozen? ⟨gz, 0, none⟩ = false := Lib.frozen_of_heap ZV90.out 0
                    have f1 : V90.frozen? ⟨gz, 1, none⟩ = false := Lib.frozen_of_heap ZV90.out 1
                    have f2 : V90.frozen? ⟨gz, 2, none⟩ = false := Lib.frozen_of_heap ZV90.out 2
                    have f3 : V90.frozen? ⟨gz, 3, none⟩ = false := Lib.frozen_of_heap ZV90.out 3
                    go_simp
                    have MV91 : Hid (Made W ((((V90.setCell ⟨gz, 0, none⟩ (.int .i64 c)).setCell ⟨gz, 1, none⟩ (.int .i64 h)).setCell ⟨gz, 2, none⟩ (.int .i64 x)).setCell ⟨gz, 3, none⟩ (.slice A3 (k + 1 + nR) kA3)) gz c h x A3 (n + 1) kA3 (ls.take k ++ [sqLy] ++ ls.drop k)) := by
                      have h1 : k + 1 + nR = (ls.take k ++ [sqLy] ++ ls.drop k).length := by rw [List.length_append, List.length_append, ← LTK.out, ← LDK.out]; rfl
                      have := made_set (c := c) (h := h) (x := x) BV90.out GZ.out OV90.out h1 ZV90.out
                      show Made _ _ _ _ _ _ _ _ _ _
                      rw [← NSUM.out]; exact this
                    have q0 := (MV91.out.1.cell (p := ⟨w.heap.size, 0, none⟩) lN).trans c0
                    have q1 := (MV91.out.1.cell (p := ⟨w.heap.size, 1, none⟩) lN).trans c1
                    have q2 := (MV91.out.1.cell (p := ⟨w.heap.size, 2, none⟩) lN).trans c2
                    have q3 := (MV91.out.1.cell (p := ⟨w.heap.size, 3, none⟩) lN).trans c3
                    refine hK.out _ _ ⟨q0, q1, q2, q3⟩ (fun hHeld => ?_)
                    clear hK K q0 q1 q2 q3
                    try simp only [Act.put, List.setIfInBounds_toArray, List.set_cons_zero, List.set_cons_succ]
                    refine wpAnyH_done (by kernel_rfl) ?_ _
                    refine NoPanic.normal ?_
                    go_wp2_with fail
                    go_meet
                    exact ⟨_, _, _, rfl, MV91.out⟩
                  exact AllReadyH.nil
                exact AllReadyH.nil
              exact AllReadyH.nil
            exact AllReadyH.nil
          exact AllReadyH.nil
        exact AllReadyH.nil
      exact AllReadyH.nil
  case rest =>
    as_aux_lemma =>
      obtain ⟨z, A9, c9, rfl, hb, hM, hR⟩ := hcut
      have B9 := Lib.hid (chain BW.out hb)
      have N9 := Lib.hid (NW.out.below hb)
      have M9 := Lib.hid hM
      have R9 := Lib.hid hR
      have q9 : ∀ j u, ((shL ⟨c, h, x⟩ ls).flatMap scells)[j]? = some u → wc.cell? ⟨b5, o5 + j, none⟩ = some u := fun j u hu => (hb.cell (p := ⟨b5, o5 + j, none⟩) l5).trans (Q5.out j u hu)
      have Q9 := Lib.hid q9
      have l9 := Nat.lt_of_lt_of_le l5 hb.size
      have EQL : Hid (ls.take k ++ [sqLy] ++ ls.drop k = ls.take k ++ sqLy :: ls.drop k) := by show _ = _; rw [List.append_assoc]; rfl
      have HLEN : Hid (n + 1 = (ls.take k ++ [sqLy] ++ ls.drop k).length) := by show _ = _; rw [List.length_append, List.length_append, ← LTK.out, ← LDK.out, ← NSUM.out]; rfl
      clear hb hM hR q9 c0 c1 c2 c3 hto hfr Q5 BW NW l5 lN
      obtain ⟨c0, c1, c2, c3⟩ := N9.out.cells
      go_wp2_with fail
      refine (all_to c h x A cA n ls X Y ((tots HE.out).1.trans HXE.out.symm) ((tots HE.out).2.trans HYE.out.symm) _ (HX.out.below B9.out) LX.out hn1).mono ?_
      rintro e w10 ⟨rfl, hb⟩
      have B10 := Lib.hid (chain B9.out hb)
      have M10 := Lib.hid (M9.out.below hb)
      have R10 := Lib.hid (R9.out.below hb)
      have q10 : ∀ j u, ((shL ⟨c, h, x⟩ ls).flatMap scells)[j]? = some u → w10.cell? ⟨b5, o5 + j, none⟩ = some u := fun j u hu => (hb.cell (p := ⟨b5, o5 + j, none⟩) l9).trans (Q9.out j u hu)
      have Q10 := Lib.hid q10
      have l10 := Nat.lt_of_lt_of_le l9 hb.size
      clear hb B9 N9 M9 R9 Q9 q10 l9 c0 c1 c2 c3
      obtain ⟨d0, d1, d2, d3⟩ := M10.out.cells
      obtain ⟨er, her⟩ : ∃ er, errN ⟨c, h, x, ls.take k ++ [sqLy] ++ ls.drop k⟩ = er := ⟨_, rfl⟩
      obtain ⟨ss, hss⟩ : ∃ ss, shN ⟨c, h, x, ls.take k ++ [sqLy] ++ ls.drop k⟩ = ss := ⟨_, rfl⟩
      have ER := Lib.hid her; have SS := Lib.hid hss
      have s1 := S1.out
      rw [← HSN.out, ← HZ.out, ← EQL.out, her] at s1
      have SR1 := Lib.hid s1
      clear her hss s1
      go_wp2_with fail
      refine (shapes_is c h x A9 c9 (n + 1) _ er ss ER.out SS.out _ R10.out HLEN.out (by omega)).mono ?_
      rintro e w11 ⟨A11, k11, n11, rfl, hn11, hR11, hb, hc11, hm11⟩
      have B11 := Lib.hid (chain B10.out hb)
      have M11 := Lib.hid (M10.out.below hb)
      have R11 := Lib.hid (R10.out.below hb)
      have q11 : ∀ j u, ((shL ⟨c, h, x⟩ ls).flatMap scells)[j]? = some u → w11.cell? ⟨b5, o5 + j, none⟩ = some u := fun j u hu => (hb.cell (p := ⟨b5, o5 + j, none⟩) l10).trans (Q10.out j u hu)
      have Q11 := Lib.hid q11
      have l11 := Nat.lt_of_lt_of_le l10 hb.size
      have RS := Lib.hid hR11; have HN11 := Lib.hid hn11
      obtain ⟨t0, t1, t2⟩ := sq_cells Q11.out G1.out
      clear hb B10 M10 R10 Q10 q11 l10 d0 d1 d2 d3 hc11 hm11 hR11 hn11
      have PS : Hid (∀ w, Calls Try.prog 21 #[.agg #[.int .i64 S.c, .int .i64 S.h, .int .i64 S.x]] w fun e w' => e = .returned (.int .i64 sn) ∧ Below w.heap.size w w') := fun w => by rw [HSN.out]; exact rsize_any _ _ _ w
      have kna : (k : Int) < (na : Int) := by have := HNA.out; omega
      have kna' : k < na := by have := HNA.out; omega
      go_wp2_with fail
      refine (PS.out _).mono ?_
      rintro e w12 ⟨rfl, hb⟩
      have B12 := Lib.hid (chain B11.out hb)
      have M12 := Lib.hid (M11.out.below hb)
      have R12 := Lib.hid (R11.out.below hb)
      have q12 : ∀ j u, ((shL ⟨c, h, x⟩ ls).flatMap scells)[j]? = some u → w12.cell? ⟨b5, o5 + j, none⟩ = some u := fun j u hu => (hb.cell (p := ⟨b5, o5 + j, none⟩) l11).trans (Q11.out j u hu)
      have Q12 := Lib.hid q12
      have l12 := Nat.lt_of_lt_of_le l11 hb.size
      have RS12 := Lib.hid (RS.out.below hb)
      clear hb B11 M11 R11 Q11 q12 l11 RS t0 t1 t2
      by_cases big : 512 < Z
      · have dz : decide (512 < Z) = true := decide_eq_true big
        obtain rfl : er = 5 := by rw [SR1.out]; exact if_neg (by omega)
        obtain rfl : n11 = 0 := by rw [HN11.out, ← SS.out, shN_no (by rw [ER.out]; decide)]; rfl
        clear big
        go_wp2_with fail
        go_ret
        exact ⟨rfl, B12.out⟩
      have dz : decide (512 < Z) = false := decide_eq_false big
      obtain rfl : er = 0 := by rw [SR1.out]; exact if_pos (by omega)
      have hss : ss = (shL ⟨c, h, x⟩ ls).take (k + 1) ++ (shL ⟨c, h, x⟩ ls).drop k := by rw [← SS.out, shN_ok ER.out, EQL.out]; exact S2.out
      have slen : (shL ⟨c, h, x⟩ ls).length = n + 1 := by rw [sh_len, ← LX.out]
      obtain rfl : nb = n11 := by rw [HN11.out, hss, List.length_append, List.length_take, List.length_drop, slen, HNB.out]; omega
      have g1 : ss[k]? = some S := by
        rw [hss, List.getElem?_append_left (by rw [List.length_take, slen]; omega), List.getElem?_take, if_pos (by omega)]; exact G1.out
      have g2 : ss[j]? = some S := by
        rw [hss, List.getElem?_append_right (by rw [List.length_take, slen, HJ.out]; omega), List.length_take, slen, List.getElem?_drop, HJ.out, show k + (k + 1 - min (k + 1) (n + 1)) = k by omega]; exact G1.out
      have g3 : ss[na]? = some T := by
        rw [hss, List.getElem?_append_right (by rw [List.length_take, slen, HNA.out]; omega), List.length_take, slen, List.getElem?_drop, HNA.out, show k + (n + 1 - min (k + 1) (n + 1)) = n by omega]; exact G2.out
      obtain ⟨b6, o6, rfl, l6, q6⟩ := RS12.out (by have := (List.getElem?_eq_some_iff.1 g1).1; omega)
      have G3 := Lib.hid g1; have G4 := Lib.hid g2; have G5 := Lib.hid g3; have Q6 := Lib.hid q6
      have TA : Hid (totW (knN ⟨c, h, x, ls.take k ++ [sqLy] ++ ls.drop k⟩) = X) := by show _ = _; rw [(tots ER.out).1, EQL.out]; exact S3.out
      have TB : Hid (totP (knN ⟨c, h, x, ls.take k ++ [sqLy] ++ ls.drop k⟩) = Z) := by show _ = _; rw [(tots ER.out).2, EQL.out, S4.out, HZ.out, HSN.out]
      clear hss g1 g2 g3 q6 RS12 big slen
      obtain ⟨d0, d1, d2, d3⟩ := M12.out.cells
      go_wp2_with fail
      refine (all_to c h x A9 c9 (n + 1) _ X Z TA.out TB.out _ R12.out HLEN.out (by omega)).mono ?_
      rintro e w13 ⟨rfl, hb⟩
      have B13 := Lib.hid (chain B12.out hb)
      have q13 : ∀ j u, ((shL ⟨c, h, x⟩ ls).flatMap scells)[j]? = some u → w13.cell? ⟨b5, o5 + j, none⟩ = some u := fun j u hu => (hb.cell (p := ⟨b5, o5 + j, none⟩) l12).trans (Q12.out j u hu)
      have q14 : ∀ j u, (ss.flatMap scells)[j]? = some u → w13.cell? ⟨b6, o6 + j, none⟩ = some u := fun j u hu => (hb.cell (p := ⟨b6, o6 + j, none⟩) l6).trans (Q6.out j u hu)
      have l13 := Nat.lt_of_lt_of_le l12 hb.size
      have l14 := Nat.lt_of_lt_of_le l6 hb.size
      obtain ⟨t0, t1, t2⟩ := sq_cells q13 G1.out
      obtain ⟨t3, t4, t5⟩ := sq_cells q13 G2.out
      obtain ⟨t6, t7, t8⟩ := sq_cells q14 G3.out
      obtain ⟨t9, t10, t11⟩ := sq_cells q14 G4.out
      obtain ⟨t12, t13, t14⟩ := sq_cells q14 G5.out
      have hna := HNA.out
      have hnb := HNB.out
      have hjj := HJ.out
      have i1 : (k : Int) < (nb : Int) := by omega
      have i2 : (j : Int) < (nb : Int) := by omega
      have i3 : (na : Int) < (nb : Int) := by omega
      have i4 : (n : Int) < (na : Int) := by omega
      have i5 : (0 : Int) ≤ (n : Int) := by omega
      have i6 : (0 : Int) ≤ (j : Int) := by omega
      have i7 : (0 : Int) ≤ (na : Int) := by omega
      have i8 : k < nb := by omega
      have i9 : j < nb := by omega
      have i10 : na < nb := by omega
      have i11 : n < na := by omega
      have v1 : IntKind.i64.wrap ((nb : Int) - 1) = (na : Int) := by rw [IntWalk.i64_in _ (by omega)]; omega
      have v2 : IntKind.i64.wrap ((na : Int) - 1) = (n : Int) := by rw [IntWalk.i64_in _ (by omega)]; omega
      have v3 : IntKind.i64.wrap ((k : Int) + 1) = (j : Int) := by rw [IntWalk.i64_in _ (by omega)]; omega
      have v4 : IntKind.i64.wrap ((na : Int) + 1) = (nb : Int) := by rw [IntWalk.i64_in _ (by omega)]; omega
      have v5 : wrap64 ((nb : Int) - 1) = (na : Int) := by rw [IntWalk.wrap64_in _ (by omega)]; omega
      have v6 : wrap64 ((na : Int) - 1) = (n : Int) := by rw [IntWalk.wrap64_in _ (by omega)]; omega
      have v7 : wrap64 ((k : Int) + 1) = (j : Int) := by rw [IntWalk.wrap64_in _ (by omega)]; omega
      have v8 : wrap64 ((na : Int) + 1) = (nb : Int) := by rw [IntWalk.wrap64_in _ (by omega)]; omega
      have x1 := shape_eq S.c S.h S.x
      have x2 := shape_eq T.c T.h T.x
      have x3 : ((nb : Int) == (nb : Int)) = true := by simp
      have x4 : (X == X) = true := by simp
      have x5 : (Z == Z) = true := by simp
      have HC0 : Hid (Below w13.heap.size w13 w13.drew) := below_drew w13
      clear hna hnb hjj q13 q14 hb d0 d1 d2 d3 B12 M12 R12 Q12 l12 l6 Q6
      go_wp2_with fail
      simp only [List.append]
      refine wp_region_noPanic ?_
      refine wp_region_held_drew (S := (fun w' => w'.cell? ⟨b5, o5 + k * 3, none⟩ = some (.int .i64 S.c) ∧ w'.cell? ⟨b5, o5 + k * 3 + 1, none⟩ = some (.int .i64 S.h) ∧ w'.cell? ⟨b5, o5 + k * 3 + 2, none⟩ = some (.int .i64 S.x) ∧ w'.cell? ⟨b5, o5 + n * 3, none⟩ = some (.int .i64 T.c) ∧ w'.cell? ⟨b5, o5 + n * 3 + 1, none⟩ = some (.int .i64 T.h) ∧ w'.cell? ⟨b5, o5 + n * 3 + 2, none⟩ = some (.int .i64 T.x) ∧ w'.cell? ⟨b6, o6 + k * 3, none⟩ = some (.int .i64 S.c) ∧ w'.cell? ⟨b6, o6 + k * 3 + 1, none⟩ = some (.int .i64 S.h) ∧ w'.cell? ⟨b6, o6 + k * 3 + 2, none⟩ = some (.int .i64 S.x) ∧ w'.cell? ⟨b6, o6 + j * 3, none⟩ = some (.int .i64 S.c) ∧ w'.cell? ⟨b6, o6 + j * 3 + 1, none⟩ = some (.int .i64 S.h) ∧ w'.cell? ⟨b6, o6 + j * 3 + 2, none⟩ = some (.int .i64 S.x) ∧ w'.cell? ⟨b6, o6 + na * 3, none⟩ = some (.int .i64 T.c) ∧ w'.cell? ⟨b6, o6 + na * 3 + 1, none⟩ = some (.int .i64 T.h) ∧ w'.cell? ⟨b6, o6 + na * 3 + 2, none⟩ = some (.int .i64 T.x))) (by kernel_rfl) (by (try dsimp only); simp [*]) (fun hHeld => ?_)
      generalize w13.drew = V at HC0 hHeld ⊢
      refine wpAnyH_take (i := 0) (v := ?vv30) (by simp only [List.getElem?_toArray, List.getElem?_cons_zero]; rfl) (by kernel_rfl) (by kernel_rfl) (by kernel_rfl) (fun _ _ _ h => h) (Or.inl ⟨by rfl, ?yy30⟩) (by assumption) ?rr30
      case yy30 => (intro w hSw; (try dsimp only at hSw); go_simp; first | done | with_reducible rfl)
      simp only [Act.put, List.setIfInBounds_toArray, List.set_cons_zero, List.set_cons_succ]
      refine wpAnyH_take (i := 1) (v := ?vv31) (by simp only [List.getElem?_toArray, List.getElem?_cons_zero, List.getElem?_cons_succ]; rfl) (by kernel_rfl) (by kernel_rfl) (by kernel_rfl) (fun _ _ _ h => h) (Or.inl ⟨by rfl, ?yy31⟩) (by assumption) ?rr31
      case yy31 => (intro w hSw; (try dsimp only at hSw); go_simp; first | done | with_reducible rfl)
      simp only [Act.put, List.setIfInBounds_toArray, List.set_cons_zero, List.set_cons_succ]
      refine wpAnyH_take (i := 2) (v := ?vv32) (by simp only [List.getElem?_toArray, List.getElem?_cons_zero, List.getElem?_cons_succ]; rfl) (by kernel_rfl) (by kernel_rfl) (by kernel_rfl) (fun _ _ _ h => h) (Or.inl ⟨by rfl, ?yy32⟩) (by assumption) ?rr32
      case yy32 => (intro w hSw; (try dsimp only at hSw); go_simp; first | done | with_reducible rfl)
      simp only [Act.put, List.setIfInBounds_toArray, List.set_cons_zero, List.set_cons_succ]
      refine wpAnyH_take (i := 3) (v := ?vv33) (by simp only [List.getElem?_toArray, List.getElem?_cons_zero, List.getElem?_cons_succ]; rfl) (by kernel_rfl) (by kernel_rfl) (by kernel_rfl) (fun _ _ _ h => h) (Or.inl ⟨by rfl, ?yy33⟩) (by assumption) ?rr33
      case yy33 => (intro w hSw; (try dsimp only at hSw); go_simp; first | done | with_reducible rfl)
      simp only [Act.put, List.setIfInBounds_toArray, List.set_cons_zero, List.set_cons_succ]
      refine wpAnyH_take (i := 4) (v := ?vv34) (by simp only [List.getElem?_toArray, List.getElem?_cons_zero, List.getElem?_cons_succ]; rfl) (by kernel_rfl) (by kernel_rfl) (by kernel_rfl) (fun _ _ _ h => h) (Or.inl ⟨by rfl, ?yy34⟩) (by assumption) ?rr34
      case yy34 => (intro w hSw; (try dsimp only at hSw); go_simp; first | done | with_reducible rfl)
      simp only [Act.put, List.setIfInBounds_toArray, List.set_cons_zero, List.set_cons_succ]
      refine wpAnyH_take (i := 5) (v := ?vv35) (by simp only [List.getElem?_toArray, List.getElem?_cons_zero, List.getElem?_cons_succ]; rfl) (by kernel_rfl) (by kernel_rfl) (by kernel_rfl) (fun _ _ _ h => h) (Or.inl ⟨by rfl, ?yy35⟩) (by assumption) ?rr35
      case yy35 => (intro w hSw; (try dsimp only at hSw); go_simp; first | done | with_reducible rfl)
      simp only [Act.put, List.setIfInBounds_toArray, List.set_cons_zero, List.set_cons_succ]
      refine wpAnyH_take (i := 6) (v := ?vv36) (by simp only [List.getElem?_toArray, List.getElem?_cons_zero, List.getElem?_cons_succ]; rfl) (by kernel_rfl) (by kernel_rfl) (by kernel_rfl) (fun _ _ _ h => h) (Or.inl ⟨by rfl, ?yy36⟩) (by assumption) ?rr36
      case yy36 => (intro w hSw; (try dsimp only at hSw); go_simp; first | done | with_reducible rfl)
      simp only [Act.put, List.setIfInBounds_toArray, List.set_cons_zero, List.set_cons_succ]
      refine wpAnyH_take (i := 7) (v := ?vv37) (by simp only [List.getElem?_toArray, List.getElem?_cons_zero, List.getElem?_cons_succ]; rfl) (by kernel_rfl) (by kernel_rfl) (by kernel_rfl) (fun _ _ _ h => h) (Or.inl ⟨by rfl, ?yy37⟩) (by assumption) ?rr37
      case yy37 => (intro w hSw; (try dsimp only at hSw); go_simp; first | done | with_reducible rfl)
      simp only [Act.put, List.setIfInBounds_toArray, List.set_cons_zero, List.set_cons_succ]
      refine wpAnyH_take (i := 8) (v := ?vv38) (by simp only [List.getElem?_toArray, List.getElem?_cons_zero, List.getElem?_cons_succ]; rfl) (by kernel_rfl) (by kernel_rfl) (by kernel_rfl) (fun _ _ _ h => h) (Or.inl ⟨by rfl, ?yy38⟩) (by assumption) ?rr38
      case yy38 => (intro w hSw; (try dsimp only at hSw); go_simp; first | done | with_reducible rfl)
      simp only [Act.put, List.setIfInBounds_toArray, List.set_cons_zero, List.set_cons_succ]
      refine wpAnyH_take (i := 9) (v := ?vv39) (by simp only [List.getElem?_toArray, List.getElem?_cons_zero, List.getElem?_cons_succ]; rfl) (by kernel_rfl) (by kernel_rfl) (by kernel_rfl) (fun _ _ _ h => h) (Or.inl ⟨by rfl, ?yy39⟩) (by assumption) ?rr39
      case yy39 => (intro w hSw; (try dsimp only at hSw); go_simp; first | done | with_reducible rfl)
      simp only [Act.put, List.setIfInBounds_toArray, List.set_cons_zero, List.set_cons_succ]
      refine wpAnyH_take (i := 10) (v := ?vv40) (by simp only [List.getElem?_toArray, List.getElem?_cons_zero, List.getElem?_cons_succ]; rfl) (by kernel_rfl) (by kernel_rfl) (by kernel_rfl) (fun _ _ _ h => h) (Or.inl ⟨by rfl, ?yy40⟩) (by assumption) ?rr40
      case yy40 => (intro w hSw; (try dsimp only at hSw); go_simp; first | done | with_reducible rfl)
      simp only [Act.put, List.setIfInBounds_toArray, List.set_cons_zero, List.set_cons_succ]
      refine wpAnyH_take (i := 11) (v := ?vv41) (by simp only [List.getElem?_toArray, List.getElem?_cons_zero, List.getElem?_cons_succ]; rfl) (by kernel_rfl) (by kernel_rfl) (by kernel_rfl) (fun _ _ _ h => h) (Or.inl ⟨by rfl, ?yy41⟩) (by assumption) ?rr41
      case yy41 => (intro w hSw; (try dsimp only at hSw); go_simp; first | done | with_reducible rfl)
      simp only [Act.put, List.setIfInBounds_toArray, List.set_cons_zero, List.set_cons_succ]
      refine wpAnyH_take (i := 12) (v := ?vv42) (by simp only [List.getElem?_toArray, List.getElem?_cons_zero, List.getElem?_cons_succ]; rfl) (by kernel_rfl) (by kernel_rfl) (by kernel_rfl) (fun _ _ _ h => h) (Or.inl ⟨by rfl, ?yy42⟩) (by assumption) ?rr42
      case yy42 => (intro w hSw; (try dsimp only at hSw); go_simp; first | done | with_reducible rfl)
      simp only [Act.put, List.setIfInBounds_toArray, List.set_cons_zero, List.set_cons_succ]
      refine wpAnyH_take (i := 13) (v := ?vv43) (by simp only [List.getElem?_toArray, List.getElem?_cons_zero, List.getElem?_cons_succ]; rfl) (by kernel_rfl) (by kernel_rfl) (by kernel_rfl) (fun _ _ _ h => h) (Or.inl ⟨by rfl, ?yy43⟩) (by assumption) ?rr43
      case yy43 => (intro w hSw; (try dsimp only at hSw); go_simp; first | done | with_reducible rfl)
      simp only [Act.put, List.setIfInBounds_toArray, List.set_cons_zero, List.set_cons_succ]
      refine wpAnyH_take (i := 14) (v := ?vv44) (by simp only [List.getElem?_toArray, List.getElem?_cons_zero, List.getElem?_cons_succ]; rfl) (by kernel_rfl) (by kernel_rfl) (by kernel_rfl) (fun _ _ _ h => h) (Or.inl ⟨by rfl, ?yy44⟩) (by assumption) ?rr44
      case yy44 => (intro w hSw; (try dsimp only at hSw); go_simp; first | done | with_reducible rfl)
      simp only [Act.put, List.setIfInBounds_toArray, List.set_cons_zero, List.set_cons_succ]
      refine wpAnyH_take (i := 15) (v := ?vv45) (by simp only [List.getElem?_toArray, List.getElem?_cons_zero, List.getElem?_cons_succ]; rfl) (by kernel_rfl) (by kernel_rfl) (by kernel_rfl) (fun _ _ _ h => h) (Or.inl ⟨by rfl, ?yy45⟩) (by assumption) ?rr45
      case yy45 => (intro w hSw; (try dsimp only at hSw); go_simp; first | done | with_reducible rfl)
      simp only [Act.put, List.setIfInBounds_toArray, List.set_cons_zero, List.set_cons_succ]
      refine wpAnyH_take (i := 16) (v := ?vv46) (by simp only [List.getElem?_toArray, List.getElem?_cons_zero, List.getElem?_cons_succ]; rfl) (by kernel_rfl) (by kernel_rfl) (by kernel_rfl) (fun _ _ _ h => h) (Or.inl ⟨by rfl, ?yy46⟩) (by assumption) ?rr46
      case yy46 => (intro w hSw; (try dsimp only at hSw); go_simp; first | done | with_reducible rfl)
      simp only [Act.put, List.setIfInBounds_toArray, List.set_cons_zero, List.set_cons_succ]
      refine wpAnyH_take (i := 17) (v := ?vv47) (by simp only [List.getElem?_toArray, List.getElem?_cons_zero, List.getElem?_cons_succ]; rfl) (by kernel_rfl) (by kernel_rfl) (by kernel_rfl) (fun _ _ _ h => h) (Or.inl ⟨by rfl, ?yy47⟩) (by assumption) ?rr47
      case yy47 => (intro w hSw; (try dsimp only at hSw); go_simp; first | done | with_reducible rfl)
      simp only [Act.put, List.setIfInBounds_toArray, List.set_cons_zero, List.set_cons_succ]
      refine wpAnyH_take (i := 18) (v := ?vv48) (by simp only [List.getElem?_toArray, List.getElem?_cons_zero, List.getElem?_cons_succ]; rfl) (by kernel_rfl) (by kernel_rfl) (by kernel_rfl) (fun _ _ _ h => h) (Or.inl ⟨by rfl, ?yy48⟩) (by assumption) ?rr48
      case yy48 => (intro w hSw; (try dsimp only at hSw); go_simp; first | done | with_reducible rfl)
      simp only [Act.put, List.setIfInBounds_toArray, List.set_cons_zero, List.set_cons_succ]
      refine wpAnyH_take (i := 19) (v := ?vv49) (by simp only [List.getElem?_toArray, List.getElem?_cons_zero, List.getElem?_cons_succ]; rfl) (by kernel_rfl) (by kernel_rfl) (by kernel_rfl) (fun _ _ _ h => h) (Or.inl ⟨by rfl, ?yy49⟩) (by assumption) ?rr49
      case yy49 => (intro w hSw; (try dsimp only at hSw); go_simp; first | done | with_reducible rfl)
      simp only [Act.put, List.setIfInBounds_toArray, List.set_cons_zero, List.set_cons_succ]
      refine wpAnyH_take (i := 20) (v := ?vv50) (by simp only [List.getElem?_toArray, List.getElem?_cons_zero, List.getElem?_cons_succ]; rfl) (by kernel_rfl) (by kernel_rfl) (by kernel_rfl) (fun _ _ _ h => h) (Or.inl ⟨by rfl, ?yy50⟩) (by assumption) ?rr50
      case yy50 => (intro w hSw; (try dsimp only at hSw); go_simp; first | done | with_reducible rfl)
      simp only [Act.put, List.setIfInBounds_toArray, List.set_cons_zero, List.set_cons_succ]
      refine wpAnyH_take (i := 21) (v := ?vv51) (by simp only [List.getElem?_toArray, List.getElem?_cons_zero, List.getElem?_cons_succ]; rfl) (by kernel_rfl) (by kernel_rfl) (by kernel_rfl) (fun _ _ _ h => h) (Or.inl ⟨by rfl, ?yy51⟩) (by assumption) ?rr51
      case yy51 => (intro w hSw; (try dsimp only at hSw); go_simp; first | done | with_reducible rfl)
      simp only [Act.put, List.setIfInBounds_toArray, List.set_cons_zero, List.set_cons_succ]
      refine wpAnyH_take (i := 22) (v := ?vv52) (by simp only [List.getElem?_toArray, List.getElem?_cons_zero, List.getElem?_cons_succ]; rfl) (by kernel_rfl) (by kernel_rfl) (by kernel_rfl) (fun _ _ _ h => h) (Or.inl ⟨by rfl, ?yy52⟩) (by assumption) ?rr52
      case yy52 => (intro w hSw; (try dsimp only at hSw); go_simp; first | done | with_reducible rfl)
      simp only [Act.put, List.setIfInBounds_toArray, List.set_cons_zero, List.set_cons_succ]
      refine wpAnyH_take (i := 23) (v := ?vv53) (by simp only [List.getElem?_toArray, List.getElem?_cons_zero, List.getElem?_cons_succ]; rfl) (by kernel_rfl) (by kernel_rfl) (by kernel_rfl) (fun _ _ _ h => h) (Or.inl ⟨by rfl, ?yy53⟩) (by assumption) ?rr53
      case yy53 => (intro w hSw; (try dsimp only at hSw); go_simp; first | done | with_reducible rfl)
      simp only [Act.put, List.setIfInBounds_toArray, List.set_cons_zero, List.set_cons_succ]
      refine wpAnyH_take (i := 24) (v := ?vv54) (by simp only [List.getElem?_toArray, List.getElem?_cons_zero, List.getElem?_cons_succ]; rfl) (by kernel_rfl) (by kernel_rfl) (by kernel_rfl) (fun _ _ _ h => h) (Or.inl ⟨by rfl, ?yy54⟩) (by assumption) ?rr54
      case yy54 => (intro w hSw; (try dsimp only at hSw); go_simp; first | done | with_reducible rfl)
      simp only [Act.put, List.setIfInBounds_toArray, List.set_cons_zero, List.set_cons_succ]
      refine wpAnyH_take (i := 25) (v := ?vv55) (by simp only [List.getElem?_toArray, List.getElem?_cons_zero, List.getElem?_cons_succ]; rfl) (by kernel_rfl) (by kernel_rfl) (by kernel_rfl) (fun _ _ _ h => h) (Or.inl ⟨by rfl, ?yy55⟩) (by assumption) ?rr55
      case yy55 => (intro w hSw; (try dsimp only at hSw); go_simp; first | done | with_reducible rfl)
      simp only [Act.put, List.setIfInBounds_toArray, List.set_cons_zero, List.set_cons_succ]
      refine wpAnyH_take (i := 26) (v := ?vv56) (by simp only [List.getElem?_toArray, List.getElem?_cons_zero, List.getElem?_cons_succ]; rfl) (by kernel_rfl) (by kernel_rfl) (by kernel_rfl) (fun _ _ _ h => h) (Or.inl ⟨by rfl, ?yy56⟩) (by assumption) ?rr56
      case yy56 => (intro w hSw; (try dsimp only at hSw); go_simp; first | done | with_reducible rfl)
      simp only [Act.put, List.setIfInBounds_toArray, List.set_cons_zero, List.set_cons_succ]
      refine wpAnyH_take (i := 27) (v := ?vv57) (by simp only [List.getElem?_toArray, List.getElem?_cons_zero, List.getElem?_cons_succ]; rfl) (by kernel_rfl) (by kernel_rfl) (by kernel_rfl) (fun _ _ _ h => h) (Or.inl ⟨by rfl, ?yy57⟩) (by assumption) ?rr57
      case yy57 => (intro w hSw; (try dsimp only at hSw); go_simp; first | done | with_reducible rfl)
      simp only [Act.put, List.setIfInBounds_toArray, List.set_cons_zero, List.set_cons_succ]
      refine wpAnyH_take (i := 28) (v := ?vv58) (by simp only [List.getElem?_toArray, List.getElem?_cons_zero, List.getElem?_cons_succ]; rfl) (by kernel_rfl) (by kernel_rfl) (by kernel_rfl) (fun _ _ _ h => h) (Or.inl ⟨by rfl, ?yy58⟩) (by assumption) ?rr58
      case yy58 => (intro w hSw; (try dsimp only at hSw); go_simp; first | done | with_reducible rfl)
      simp only [Act.put, List.setIfInBounds_toArray, List.set_cons_zero, List.set_cons_succ]
      refine wpAnyH_take (i := 29) (v := ?vv59) (by simp only [List.getElem?_toArray, List.getElem?_cons_zero, List.getElem?_cons_succ]; rfl) (by kernel_rfl) (by kernel_rfl) (by kernel_rfl) (fun _ _ _ h => h) (Or.inl ⟨by rfl, ?yy59⟩) (by assumption) ?rr59
      case yy59 => (intro w hSw; (try dsimp only at hSw); go_simp; first | done | with_reducible rfl)
      simp only [Act.put, List.setIfInBounds_toArray, List.set_cons_zero, List.set_cons_succ]
      refine wpAnyH_take (i := 30) (v := ?vv60) (by simp only [List.getElem?_toArray, List.getElem?_cons_zero, List.getElem?_cons_succ]; rfl) (by kernel_rfl) (by kernel_rfl) (by kernel_rfl) (fun _ _ _ h => h) (Or.inl ⟨by rfl, ?yy60⟩) (by assumption) ?rr60
      case yy60 => (intro w hSw; (try dsimp only at hSw); go_simp; first | done | with_reducible rfl)
      simp only [Act.put, List.setIfInBounds_toArray, List.set_cons_zero, List.set_cons_succ]
      refine wpAnyH_take (i := 31) (v := ?vv61) (by simp only [List.getElem?_toArray, List.getElem?_cons_zero, List.getElem?_cons_succ]; rfl) (by kernel_rfl) (by kernel_rfl) (by kernel_rfl) (fun _ _ _ h => h) (Or.inl ⟨by rfl, ?yy61⟩) (by assumption) ?rr61
      case yy61 => (intro w hSw; (try dsimp only at hSw); go_simp; first | done | with_reducible rfl)
      simp only [Act.put, List.setIfInBounds_toArray, List.set_cons_zero, List.set_cons_succ]
      refine wpAnyH_take (i := 32) (v := ?vv62) (by simp only [List.getElem?_toArray, List.getElem?_cons_zero, List.getElem?_cons_succ]; rfl) (by kernel_rfl) (by kernel_rfl) (by kernel_rfl) (fun _ _ _ h => h) (Or.inl ⟨by rfl, ?yy62⟩) (by assumption) ?rr62
      case yy62 => (intro w hSw; (try dsimp only at hSw); go_simp; first | done | with_reducible rfl)
      simp only [Act.put, List.setIfInBounds_toArray, List.set_cons_zero, List.set_cons_succ]
      refine wpAnyH_take (i := 33) (v := ?vv63) (by simp only [List.getElem?_toArray, List.getElem?_cons_zero, List.getElem?_cons_succ]; rfl) (by kernel_rfl) (by kernel_rfl) (by kernel_rfl) (fun _ _ _ h => h) (Or.inl ⟨by rfl, ?yy63⟩) (by assumption) ?rr63
      case yy63 => (intro w hSw; (try dsimp only at hSw); go_simp; first | done | with_reducible rfl)
      simp only [Act.put, List.setIfInBounds_toArray, List.set_cons_zero, List.set_cons_succ]
      refine wpAnyH_take (i := 34) (v := ?vv64) (by simp only [List.getElem?_toArray, List.getElem?_cons_zero, List.getElem?_cons_succ]; rfl) (by kernel_rfl) (by kernel_rfl) (by kernel_rfl) (fun _ _ _ h => h) (Or.inl ⟨by rfl, ?yy64⟩) (by assumption) ?rr64
      case yy64 => (intro w hSw; (try dsimp only at hSw); go_simp; first | done | with_reducible rfl)
      simp only [Act.put, List.setIfInBounds_toArray, List.set_cons_zero, List.set_cons_succ]
      refine wpAnyH_take (i := 35) (v := ?vv65) (by simp only [List.getElem?_toArray, List.getElem?_cons_zero, List.getElem?_cons_succ]; rfl) (by kernel_rfl) (by kernel_rfl) (by kernel_rfl) (fun _ _ _ h => h) (Or.inl ⟨by rfl, ?yy65⟩) (by assumption) ?rr65
      case yy65 => (intro w hSw; (try dsimp only at hSw); go_simp; first | done | with_reducible rfl)
      simp only [Act.put, List.setIfInBounds_toArray, List.set_cons_zero, List.set_cons_succ]
      refine wpAnyH_take (i := 36) (v := ?vv66) (by simp only [List.getElem?_toArray, List.getElem?_cons_zero, List.getElem?_cons_succ]; rfl) (by kernel_rfl) (by kernel_rfl) (by kernel_rfl) (fun _ _ _ h => h) (Or.inl ⟨by rfl, ?yy66⟩) (by assumption) ?rr66
      case yy66 => (intro w hSw; (try dsimp only at hSw); go_simp; first | done | with_reducible rfl)
      simp only [Act.put, List.setIfInBounds_toArray, List.set_cons_zero, List.set_cons_succ]
      refine wpAnyH_take (i := 37) (v := ?vv67) (by simp only [List.getElem?_toArray, List.getElem?_cons_zero, List.getElem?_cons_succ]; rfl) (by kernel_rfl) (by kernel_rfl) (by kernel_rfl) (fun _ _ _ h => h) (Or.inl ⟨by rfl, ?yy67⟩) (by assumption) ?rr67
      case yy67 => (intro w hSw; (try dsimp only at hSw); go_simp; first | done | with_reducible rfl)
      simp only [Act.put, List.setIfInBounds_toArray, List.set_cons_zero, List.set_cons_succ]
      refine wpAnyH_take (i := 38) (v := ?vv68) (by simp only [List.getElem?_toArray, List.getElem?_cons_zero, List.getElem?_cons_succ]; rfl) (by kernel_rfl) (by kernel_rfl) (by kernel_rfl) (fun _ _ _ h => h) (Or.inl ⟨by rfl, ?yy68⟩) (by assumption) ?rr68
      case yy68 => (intro w hSw; (try dsimp only at hSw); go_simp; first | done | with_reducible rfl)
      simp only [Act.put, List.setIfInBounds_toArray, List.set_cons_zero, List.set_cons_succ]
      refine wpAnyH_take (i := 39) (v := ?vv69) (by simp only [List.getElem?_toArray, List.getElem?_cons_zero, List.getElem?_cons_succ]; rfl) (by kernel_rfl) (by kernel_rfl) (by kernel_rfl) (fun _ _ _ h => h) (Or.inl ⟨by rfl, ?yy69⟩) (by assumption) ?rr69
      case yy69 => (intro w hSw; (try dsimp only at hSw); go_simp; first | done | with_reducible rfl)
      simp only [Act.put, List.setIfInBounds_toArray, List.set_cons_zero, List.set_cons_succ]
      refine wpAnyH_take (i := 40) (v := ?vv70) (by simp only [List.getElem?_toArray, List.getElem?_cons_zero, List.getElem?_cons_succ]; rfl) (by kernel_rfl) (by kernel_rfl) (by kernel_rfl) (fun _ _ _ h => h) (Or.inl ⟨by rfl, ?yy70⟩) (by assumption) ?rr70
      case yy70 => (intro w hSw; (try dsimp only at hSw); go_simp; first | done | with_reducible rfl)
      simp only [Act.put, List.setIfInBounds_toArray, List.set_cons_zero, List.set_cons_succ]
      refine wpAnyH_take (i := 41) (v := ?vv71) (by simp only [List.getElem?_toArray, List.getElem?_cons_zero, List.getElem?_cons_succ]; rfl) (by kernel_rfl) (by kernel_rfl) (by kernel_rfl) (fun _ _ _ h => h) (Or.inl ⟨by rfl, ?yy71⟩) (by assumption) ?rr71
      case yy71 => (intro w hSw; (try dsimp only at hSw); go_simp; first | done | with_reducible rfl)
      simp only [Act.put, List.setIfInBounds_toArray, List.set_cons_zero, List.set_cons_succ]
      refine wpAnyH_take (i := 42) (v := ?vv72) (by simp only [List.getElem?_toArray, List.getElem?_cons_zero, List.getElem?_cons_succ]; rfl) (by kernel_rfl) (by kernel_rfl) (by kernel_rfl) (fun _ _ _ h => h) (Or.inl ⟨by rfl, ?yy72⟩) (by assumption) ?rr72
      case yy72 => (intro w hSw; (try dsimp only at hSw); go_simp; first | done | with_reducible rfl)
      simp only [Act.put, List.setIfInBounds_toArray, List.set_cons_zero, List.set_cons_succ]
      refine wpAnyH_take (i := 43) (v := ?vv73) (by simp only [List.getElem?_toArray, List.getElem?_cons_zero, List.getElem?_cons_succ]; rfl) (by kernel_rfl) (by kernel_rfl) (by kernel_rfl) (fun _ _ _ h => h) (Or.inl ⟨by rfl, ?yy73⟩) (by assumption) ?rr73
      case yy73 => (intro w hSw; (try dsimp only at hSw); go_simp; first | done | with_reducible rfl)
      simp only [Act.put, List.setIfInBounds_toArray, List.set_cons_zero, List.set_cons_succ]
      refine wpAnyH_take (i := 44) (v := ?vv74) (by simp only [List.getElem?_toArray, List.getElem?_cons_zero, List.getElem?_cons_succ]; rfl) (by kernel_rfl) (by kernel_rfl) (by kernel_rfl) (fun _ _ _ h => h) (Or.inl ⟨by rfl, ?yy74⟩) (by assumption) ?rr74
      case yy74 => (intro w hSw; (try dsimp only at hSw); go_simp; first | done | with_reducible rfl)
      simp only [Act.put, List.setIfInBounds_toArray, List.set_cons_zero, List.set_cons_succ]
      refine wpAnyH_take (i := 45) (v := ?vv75) (by simp only [List.getElem?_toArray, List.getElem?_cons_zero, List.getElem?_cons_succ]; rfl) (by kernel_rfl) (by kernel_rfl) (by kernel_rfl) (fun _ _ _ h => h) (Or.inl ⟨by rfl, ?yy75⟩) (by assumption) ?rr75
      case yy75 => (intro w hSw; (try dsimp only at hSw); go_simp; first | done | with_reducible rfl)
      simp only [Act.put, List.setIfInBounds_toArray, List.set_cons_zero, List.set_cons_succ]
      refine wpAnyH_take (i := 46) (v := ?vv76) (by simp only [List.getElem?_toArray, List.getElem?_cons_zero, List.getElem?_cons_succ]; rfl) (by kernel_rfl) (by kernel_rfl) (by kernel_rfl) (fun _ _ _ h => h) (Or.inl ⟨by rfl, ?yy76⟩) (by assumption) ?rr76
      case yy76 => (intro w hSw; (try dsimp only at hSw); go_simp; first | done | with_reducible rfl)
      simp only [Act.put, List.setIfInBounds_toArray, List.set_cons_zero, List.set_cons_succ]
      refine wpAnyH_take (i := 47) (v := ?vv77) (by simp only [List.getElem?_toArray, List.getElem?_cons_zero, List.getElem?_cons_succ]; rfl) (by kernel_rfl) (by kernel_rfl) (by kernel_rfl) (fun _ _ _ h => h) (Or.inl ⟨by rfl, ?yy77⟩) (by assumption) ?rr77
      case yy77 => (intro w hSw; (try dsimp only at hSw); go_simp; first | done | with_reducible rfl)
      simp only [Act.put, List.setIfInBounds_toArray, List.set_cons_zero, List.set_cons_succ]
      refine wpAnyH_take (i := 48) (v := ?vv78) (by simp only [List.getElem?_toArray, List.getElem?_cons_zero, List.getElem?_cons_succ]; rfl) (by kernel_rfl) (by kernel_rfl) (by kernel_rfl) (fun _ _ _ h => h) (Or.inl ⟨by rfl, ?yy78⟩) (by assumption) ?rr78
      case yy78 => (intro w hSw; (try dsimp only at hSw); go_simp; first | done | with_reducible rfl)
      simp only [Act.put, List.setIfInBounds_toArray, List.set_cons_zero, List.set_cons_succ]
      refine wpAnyH_take (i := 49) (v := ?vv79) (by simp only [List.getElem?_toArray, List.getElem?_cons_zero, List.getElem?_cons_succ]; rfl) (by kernel_rfl) (by kernel_rfl) (by kernel_rfl) (fun _ _ _ h => h) (Or.inl ⟨by rfl, ?yy79⟩) (by assumption) ?rr79
      case yy79 => (intro w hSw; (try dsimp only at hSw); go_simp; first | done | with_reducible rfl)
      simp only [Act.put, List.setIfInBounds_toArray, List.set_cons_zero, List.set_cons_succ]
      refine wpAnyH_take (i := 50) (v := ?vv80) (by simp only [List.getElem?_toArray, List.getElem?_cons_zero, List.getElem?_cons_succ]; rfl) (by kernel_rfl) (by kernel_rfl) (by kernel_rfl) (fun _ _ _ h => h) (Or.inl ⟨by rfl, ?yy80⟩) (by assumption) ?rr80
      case yy80 => (intro w hSw; (try dsimp only at hSw); go_simp; first | done | with_reducible rfl)
      simp only [Act.put, List.setIfInBounds_toArray, List.set_cons_zero, List.set_cons_succ]
      refine wpAnyH_take (i := 51) (v := ?vv81) (by simp only [List.getElem?_toArray, List.getElem?_cons_zero, List.getElem?_cons_succ]; rfl) (by kernel_rfl) (by kernel_rfl) (by kernel_rfl) (fun _ _ _ h => h) (Or.inl ⟨by rfl, ?yy81⟩) (by assumption) ?rr81
      case yy81 => (intro w hSw; (try dsimp only at hSw); go_simp; first | done | with_reducible rfl)
      simp only [Act.put, List.setIfInBounds_toArray, List.set_cons_zero, List.set_cons_succ]
      refine wpAnyH_take (i := 52) (v := ?vv82) (by simp only [List.getElem?_toArray, List.getElem?_cons_zero, List.getElem?_cons_succ]; rfl) (by kernel_rfl) (by kernel_rfl) (by kernel_rfl) (fun _ _ _ h => h) (Or.inl ⟨by rfl, ?yy82⟩) (by assumption) ?rr82
      case yy82 => (intro w hSw; (try dsimp only at hSw); go_simp; first | done | with_reducible rfl)
      simp only [Act.put, List.setIfInBounds_toArray, List.set_cons_zero, List.set_cons_succ]
      refine wpAnyH_take (i := 53) (v := ?vv83) (by simp only [List.getElem?_toArray, List.getElem?_cons_zero, List.getElem?_cons_succ]; rfl) (by kernel_rfl) (by kernel_rfl) (by kernel_rfl) (fun _ _ _ h => h) (Or.inl ⟨by rfl, ?yy83⟩) (by assumption) ?rr83
      case yy83 => (intro w hSw; (try dsimp only at hSw); go_simp; first | done | with_reducible rfl)
      simp only [Act.put, List.setIfInBounds_toArray, List.set_cons_zero, List.set_cons_succ]
      refine wpAnyH_take (i := 54) (v := ?vv84) (by simp only [List.getElem?_toArray, List.getElem?_cons_zero, List.getElem?_cons_succ]; rfl) (by kernel_rfl) (by kernel_rfl) (by kernel_rfl) (fun _ _ _ h => h) (Or.inl ⟨by rfl, ?yy84⟩) (by assumption) ?rr84
      case yy84 => (intro w hSw; (try dsimp only at hSw); go_simp; first | done | with_reducible rfl)
      simp only [Act.put, List.setIfInBounds_toArray, List.set_cons_zero, List.set_cons_succ]
      refine wpAnyH_take (i := 55) (v := ?vv85) (by simp only [List.getElem?_toArray, List.getElem?_cons_zero, List.getElem?_cons_succ]; rfl) (by kernel_rfl) (by kernel_rfl) (by kernel_rfl) (fun _ _ _ h => h) (Or.inl ⟨by rfl, ?yy85⟩) (by assumption) ?rr85
      case yy85 => (intro w hSw; (try dsimp only at hSw); go_simp; first | done | with_reducible rfl)
      simp only [Act.put, List.setIfInBounds_toArray, List.set_cons_zero, List.set_cons_succ]
      refine wpAnyH_take (i := 56) (v := ?vv86) (by simp only [List.getElem?_toArray, List.getElem?_cons_zero, List.getElem?_cons_succ]; rfl) (by kernel_rfl) (by kernel_rfl) (by kernel_rfl) (fun _ _ _ h => h) (Or.inl ⟨by rfl, ?yy86⟩) (by assumption) ?rr86
      case yy86 => (intro w hSw; (try dsimp only at hSw); go_simp; first | done | with_reducible rfl)
      simp only [Act.put, List.setIfInBounds_toArray, List.set_cons_zero, List.set_cons_succ]
      refine wpAnyH_take (i := 57) (v := ?vv87) (by simp only [List.getElem?_toArray, List.getElem?_cons_zero, List.getElem?_cons_succ]; rfl) (by kernel_rfl) (by kernel_rfl) (by kernel_rfl) (fun _ _ _ h => h) (Or.inl ⟨by rfl, ?yy87⟩) (by assumption) ?rr87
      case yy87 => (intro w hSw; (try dsimp only at hSw); go_simp; first | done | with_reducible rfl)
      simp only [Act.put, List.setIfInBounds_toArray, List.set_cons_zero, List.set_cons_succ]
      refine wpAnyH_take (i := 58) (v := ?vv88) (by simp only [List.getElem?_toArray, List.getElem?_cons_zero, List.getElem?_cons_succ]; rfl) (by kernel_rfl) (by kernel_rfl) (by kernel_rfl) (fun _ _ _ h => h) (Or.inl ⟨by rfl, ?yy88⟩) (by assumption) ?rr88
      case yy88 => (intro w hSw; (try dsimp only at hSw); go_simp; first | done | with_reducible rfl)
      simp only [Act.put, List.setIfInBounds_toArray, List.set_cons_zero, List.set_cons_succ]
      refine wpAnyH_take (i := 59) (v := ?vv89) (by simp only [List.getElem?_toArray, List.getElem?_cons_zero, List.getElem?_cons_succ]; rfl) (by kernel_rfl) (by kernel_rfl) (by kernel_rfl) (fun _ _ _ h => h) (Or.inl ⟨by rfl, ?yy89⟩) (by assumption) ?rr89
      case yy89 => (intro w hSw; (try dsimp only at hSw); go_simp; first | done | with_reducible rfl)
      simp only [Act.put, List.setIfInBounds_toArray, List.set_cons_zero, List.set_cons_succ]
      refine wpAnyH_take (i := 60) (v := ?vv90) (by simp only [List.getElem?_toArray, List.getElem?_cons_zero, List.getElem?_cons_succ]; rfl) (by kernel_rfl) (by kernel_rfl) (by kernel_rfl) (fun _ _ _ h => h) (Or.inl ⟨by rfl, ?yy90⟩) (by assumption) ?rr90
      case yy90 => (intro w hSw; (try dsimp only at hSw); go_simp; first | done | with_reducible rfl)
      simp only [Act.put, List.setIfInBounds_toArray, List.set_cons_zero, List.set_cons_succ]
      refine wpAnyH_take (i := 61) (v := ?vv91) (by simp only [List.getElem?_toArray, List.getElem?_cons_zero, List.getElem?_cons_succ]; rfl) (by kernel_rfl) (by kernel_rfl) (by kernel_rfl) (fun _ _ _ h => h) (Or.inl ⟨by rfl, ?yy91⟩) (by assumption) ?rr91
      case yy91 => (intro w hSw; (try dsimp only at hSw); go_simp; first | done | with_reducible rfl)
      simp only [Act.put, List.setIfInBounds_toArray, List.set_cons_zero, List.set_cons_succ]
      refine wpAnyH_take (i := 62) (v := ?vv92) (by simp only [List.getElem?_toArray, List.getElem?_cons_zero, List.getElem?_cons_succ]; rfl) (by kernel_rfl) (by kernel_rfl) (by kernel_rfl) (fun _ _ _ h => h) (Or.inl ⟨by rfl, ?yy92⟩) (by assumption) ?rr92
      case yy92 => (intro w hSw; (try dsimp only at hSw); go_simp; first | done | with_reducible rfl)
      simp only [Act.put, List.setIfInBounds_toArray, List.set_cons_zero, List.set_cons_succ]
      refine wpAnyH_ready (rs := [63]) (by kernel_rfl) (by simp) ?_
      refine AllReadyH.cons (by simp only [List.getElem?_toArray, List.getElem?_cons_zero, List.getElem?_cons_succ]; rfl) (fun K hK => ?_) AllReadyH.nil
      go_simp
      go_at_call 21
      (with_reducible refine (PS.out _).mono ?_)
      rintro e w14 ⟨rfl, hb⟩
      have HC1 := Lib.hid (HC0.out.trans (hb.mono HC0.out.size))
      clear hb hHeld
      have q0 := (HC1.out.cell (p := ⟨b5, o5 + k * 3, none⟩) l13).trans t0
      have q1 := (HC1.out.cell (p := ⟨b5, o5 + k * 3 + 1, none⟩) l13).trans t1
      have q2 := (HC1.out.cell (p := ⟨b5, o5 + k * 3 + 2, none⟩) l13).trans t2
      have q3 := (HC1.out.cell (p := ⟨b5, o5 + n * 3, none⟩) l13).trans t3
      have q4 := (HC1.out.cell (p := ⟨b5, o5 + n * 3 + 1, none⟩) l13).trans t4
      have q5 := (HC1.out.cell (p := ⟨b5, o5 + n * 3 + 2, none⟩) l13).trans t5
      have q6 := (HC1.out.cell (p := ⟨b6, o6 + k * 3, none⟩) l14).trans t6
      have q7 := (HC1.out.cell (p := ⟨b6, o6 + k * 3 + 1, none⟩) l14).trans t7
      have q8 := (HC1.out.cell (p := ⟨b6, o6 + k * 3 + 2, none⟩) l14).trans t8
      have q9 := (HC1.out.cell (p := ⟨b6, o6 + j * 3, none⟩) l14).trans t9
      have q10 := (HC1.out.cell (p := ⟨b6, o6 + j * 3 + 1, none⟩) l14).trans t10
      have q11 := (HC1.out.cell (p := ⟨b6, o6 + j * 3 + 2, none⟩) l14).trans t11
      have q12 := (HC1.out.cell (p := ⟨b6, o6 + na * 3, none⟩) l14).trans t12
      have q13 := (HC1.out.cell (p := ⟨b6, o6 + na * 3 + 1, none⟩) l14).trans t13
      have q14 := (HC1.out.cell (p := ⟨b6, o6 + na * 3 + 2, none⟩) l14).trans t14
      go_wp2_with fail
      refine hK.out _ _ ⟨q0, q1, q2, q3, q4, q5, q6, q7, q8, q9, q10, q11, q12, q13, q14⟩ (fun hHeld => ?_)
      clear hK K
      try simp only [Act.put, List.setIfInBounds_toArray, List.set_cons_zero, List.set_cons_succ]
      refine wpAnyH_take (i := 64) (v := ?vv93) (by simp only [List.getElem?_toArray, List.getElem?_cons_zero, List.getElem?_cons_succ]; rfl) (by kernel_rfl) (by kernel_rfl) (by kernel_rfl) (fun _ _ _ h => h) (Or.inl ⟨by rfl, ?yy93⟩) (by assumption) ?rr93
      case yy93 => (intro w hSw; (try dsimp only at hSw); go_simp; first | done | with_reducible rfl)
      simp only [Act.put, List.setIfInBounds_toArray, List.set_cons_zero, List.set_cons_succ]
      refine wpAnyH_take (i := 65) (v := ?vv94) (by simp only [List.getElem?_toArray, List.getElem?_cons_zero, List.getElem?_cons_succ]; rfl) (by kernel_rfl) (by kernel_rfl) (by kernel_rfl) (fun _ _ _ h => h) (Or.inl ⟨by rfl, ?yy94⟩) (by assumption) ?rr94
      case yy94 => (intro w hSw; (try dsimp only at hSw); go_simp; first | done | with_reducible rfl)
      simp only [Act.put, List.setIfInBounds_toArray, List.set_cons_zero, List.set_cons_succ]
      refine wpAnyH_take (i := 66) (v := ?vv95) (by simp only [List.getElem?_toArray, List.getElem?_cons_zero, List.getElem?_cons_succ]; rfl) (by kernel_rfl) (by kernel_rfl) (by kernel_rfl) (fun _ _ _ h => h) (Or.inl ⟨by rfl, ?yy95⟩) (by assumption) ?rr95
      case yy95 => (intro w hSw; (try dsimp only at hSw); go_simp; first | done | with_reducible rfl)
      simp only [Act.put, List.setIfInBounds_toArray, List.set_cons_zero, List.set_cons_succ]
      refine wpAnyH_take (i := 67) (v := ?vv96) (by simp only [List.getElem?_toArray, List.getElem?_cons_zero, List.getElem?_cons_succ]; rfl) (by kernel_rfl) (by kernel_rfl) (by kernel_rfl) (fun _ _ _ h => h) (Or.inl ⟨by rfl, ?yy96⟩) (by assumption) ?rr96
      case yy96 => (intro w hSw; (try dsimp only at hSw); go_simp; first | done | with_reducible rfl)
      simp only [Act.put, List.setIfInBounds_toArray, List.set_cons_zero, List.set_cons_succ]
      refine wpAnyH_done (by kernel_rfl) ?_ _
      refine NoPanic.normal ?_
      go_wp2_with fail
      go_ret
      exact ⟨rfl, chain B13.out HC1.out⟩

end Go.Proofs.Ytbcmhoomdackkaa
