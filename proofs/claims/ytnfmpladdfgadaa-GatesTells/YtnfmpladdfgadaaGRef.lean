/-
  What the document's own gates answer: Total, Stages, Range, Line, All, Gate, Index.
-/
import Derived.Test.YtnfmpladdfgadaaGMath
import Derived.Test.YtnfmpladdfgadaaRTerms
import Derived.Test.YtnfmpladdfgadaaRefA
import Derived.Deep.AppendLies
namespace Go.Proofs.Ytnfmpladdfgadaa
open Go.RowKit

theorem Try.info54 : (Try.prog.info? 54).map (fun i => (i.zero, i.size, i.bytes)) = some (some (.agg #[.int .i64 0, .int .i64 0, .int .i64 0, .int .i64 0, .int .i64 0]), 5, 40) := by kernel_rfl

set_option maxHeartbeats 1000000 in
theorem rtotal8 (c h x : Int) (A : Option Addr) (cA n : Nat) (ls : List Ly) (w : World) (hx : Rl w A ls) (ln : n = ls.length) (hn : n ≤ 60) :
    Calls Try.prog 49 #[.agg #[.int .i64 c, .int .i64 h, .int .i64 x, .slice A n cA]] w fun e w' => e = .returned (.int .i64 (totP (knN ⟨c, h, x, ls⟩))) ∧ Below w.heap.size w w' := by
  have HX := Lib.hid hx; have LX := Lib.hid ln
  have hn1 : n ≤ 1000 := by omega
  clear hx ln
  go_enter Try.func49, Try.ntmps49
  go_wp2_with fail
  refine (rall_of c h x A cA n ls _ (HX.out.below ((Below.refl _ w).alloc (Nat.le_refl _) _)) LX.out hn1).mono ?_
  rintro e w1 ⟨rfl, hb⟩
  have B1 := Lib.hid (chain ((Below.refl w.heap.size w).alloc (Nat.le_refl _) _) hb)
  clear hb
  go_wp2_with fail
  go_ret
  exact ⟨rfl, B1.out⟩

set_option maxHeartbeats 2000000 in
set_option maxRecDepth 100000 in
theorem rstages8 (c h x : Int) (A : Option Addr) (cA n : Nat) (ls : List Ly) (w : World) (hx : Rl w A ls) (ln : n = ls.length) (hn : n ≤ 60) :
    Calls Try.prog 47 #[.agg #[.int .i64 c, .int .i64 h, .int .i64 x, .slice A n cA]] w (RowTo icells (stagesN ⟨c, h, x, ls⟩) w) := by
  obtain ⟨i0, hi, hz0, hz1, hz2⟩ := info_parts Try.info3
  obtain ⟨er, her⟩ : ∃ er, er = errN ⟨c, h, x, ls⟩ := ⟨_, rfl⟩
  have HER := Lib.hid her
  have N0 := Lib.hid (NB.new w c h x (.slice A n cA))
  have B0 : Hid (Below w.heap.size w (w.alloc (.cells #[.int .i64 c, .int .i64 h, .int .i64 x, .slice A n cA] 26))) := (Below.refl _ w).alloc (Nat.le_refl _) _
  clear her
  have HX := Lib.hid hx; have LX := Lib.hid ln
  have hn1 : n ≤ 1000 := by omega
  clear hx ln
  go_enter Try.func47, Try.ntmps47
  go_wp2_with fail
  generalize w.alloc (.cells #[.int .i64 c, .int .i64 h, .int .i64 x, .slice A n cA] 26) = W at N0 B0 ⊢
  go_loopg [3, 4] n (fun g s3 s4 wx => ∃ k : Nat, k ≤ n ∧ Hid (g = n - k) ∧ s4 = .int .i64 (k : Int) ∧ Hid (wx.ownsRow W.heap.size 3 1 s3 (stK ls k).length ((stK ls k).flatMap icells)) ∧ Hid (k = 0 ∨ er = 0) ∧ Hid (Below W.heap.size W wx))
  case atStart => exact ⟨0, by omega, by show _ = _; omega, rfl, World.ownsRow_nil _ _ _ _, .inl rfl, Below.refl _ _⟩
  case round =>
    obtain ⟨k, hk, HG, rfl, OW, HZ, BK⟩ := hrel
    have BW := Lib.hid (chain B0.out BK.out)
    have NW := Lib.hid (N0.out.below BK.out)
    obtain ⟨c0, c1, c2, c3⟩ := NW.out.cells
    by_cases kn : k < n
    · have ki : (k : Int) < (n : Int) := by omega
      go_wp2_with fail
      refine (rright_of c h x A cA n ls _ (HX.out.below BW.out) LX.out hn1).mono ?_
      rintro e w2 ⟨rfl, hb⟩
      rw [← HER.out]
      have B2 := Lib.hid (chain BK.out hb)
      have BW2 := Lib.hid (chain BW.out hb)
      have N2 := Lib.hid (NW.out.below hb)
      have O2 := Lib.hid (own_belowE OW.out hb)
      clear hb c0 c1 c2 c3 OW BK BW NW
      obtain ⟨c0, c1, c2, c3⟩ := N2.out.cells
      by_cases h0 : ¬ er = 0
      · have b0 : (er == 0) = false := by simpa using h0
        obtain rfl : k = 0 := HZ.out.elim (fun z => z) (fun z => absurd z h0)
        have E0 : Hid (stagesN ⟨c, h, x, ls⟩ = []) := if_neg (by rw [← HER.out]; exact h0)
        obtain ⟨A', c', rfl, e1, hr, e3, e4⟩ := own_cap icells_len (by decide) O2.out
        have HR := Lib.hid hr; have E3 := Lib.hid e3; have E4 := Lib.hid e4
        clear h0 hr e1 e3 e4
        go_wp2_with fail
        go_ret
        refine ⟨A', c', _, rfl, by rw [E0.out]; rfl, by rw [E0.out]; exact Rg.nil _ _ _, BW2.out, E3.out, E4.out⟩
      have h0 : er = 0 := by omega
      have b0 : (er == 0) = true := by rw [h0]; rfl
      have kl : k < ls.length := by rw [← LX.out]; exact kn
      obtain ⟨b1, o1, rfl, l1, q⟩ := HX.out (by omega)
      obtain ⟨z0, z1, z2, z3⟩ := (q k kl).below BW2.out l1
      obtain ⟨l, hl⟩ : ∃ l, l = ls.getD k Ly.z := ⟨_, rfl⟩
      rw [← hl] at z0 z1 z2 z3
      have HL := Lib.hid hl; have H0 := Lib.hid h0
      have ln60 := stK_len ls k
      clear q hl h0 kl
      by_cases k3 : l.k = 3
      · have d : (l.k != 3) = false := by rw [k3]; rfl
        have O3 : Hid (w2.ownsRow W.heap.size 3 1 u3 (stK ls (k + 1)).length ((stK ls (k + 1)).flatMap icells)) := by
          have : stK ls (k + 1) = stK ls k := by simp only [stK]; rw [← HL.out, if_pos k3, List.append_nil]
          show World.ownsRow _ _ _ _ _ _ _
          rw [this]; exact O2.out
        clear k3
        go_wp2_with fail
        go_roundg (n - (k + 1))
        case measure => have := HG.out; omega
        case rel => exact ⟨k + 1, by omega, rfl, by go_num, O3, .inr H0.out, B2⟩
      · have d : (l.k != 3) = true := by simpa using k3
        have E1 : Hid (stK ls (k + 1) = stK ls k ++ [((k : Nat) : Int)]) := by show _ = _; simp only [stK]; rw [← HL.out, if_neg k3]
        have hs := B2.out.size
        clear k3
        go_wp2_with (at_builtin; refine wpList_append_own _ rfl _ _ 43 rfl W.heap.size 3 i0 (.int .i64 0) 1 8 Try.underlying43 hi hz0 hz1 hz2 rfl (by decide) _ _ _ rfl (O2.out.alloc _) ⟨w2.heap.size, 0, none⟩ 1 1 (icells (k : Int)) rfl rfl ?c1 (icells_one _) ?c3 ?c4 ?c5 ?_)
        case c1 => first | exact fun _ _ h => h | exact new_cells
        case c3 => unfold maxLen; omega
        case c4 => omega
        case c5 => first | omega | (simp; omega)
        intro v' w4 hown2 hgrow hcp
        clear hcp
        have O4 : Hid (w4.ownsRow W.heap.size 3 1 v' (stK ls (k + 1)).length ((stK ls (k + 1)).flatMap icells)) := by
          show World.ownsRow _ _ _ _ _ _ _
          rw [E1.out, List.length_append, List.flatMap_append]
          simpa using hown2
        have B4 : Hid (Below W.heap.size W w4) := (B2.out.alloc hs _).grown hgrow (by simp; omega) (fun q hqq => (O2.out.lt _ hqq).1)
        clear hown2 hgrow O2 B2 hs
        go_wp2_with fail
        go_roundg (n - (k + 1))
        case measure => have := HG.out; omega
        case rel => exact ⟨k + 1, by omega, rfl, by go_num, O4, .inr H0.out, B4⟩
    · obtain rfl : k = n := by omega
      have E0 : Hid (stagesN ⟨c, h, x, ls⟩ = stK ls k) := by
        show _ = _
        rcases HZ.out with z | z
        · subst z
          have : ls = [] := List.length_eq_zero_iff.1 LX.out.symm
          subst this
          unfold stagesN; split <;> rfl
        · rw [show stagesN ⟨c, h, x, ls⟩ = stK ls ls.length from if_pos (by rw [← HER.out]; exact z), LX.out]
      obtain ⟨A', c', rfl, e1, hr, e3, e4⟩ := own_cap icells_len (by decide) OW.out
      have HR := Lib.hid hr; have E3 := Lib.hid e3; have E4 := Lib.hid e4
      clear hr e1 e3 e4
      go_wp2_with fail
      go_ret
      exact ⟨A', c', _, rfl, by rw [E0.out], by rw [E0.out]; exact HR.out, BW.out, E3.out, E4.out⟩

set_option maxHeartbeats 2000000 in
set_option maxRecDepth 100000 in
theorem rrange8 (c h x : Int) (A : Option Addr) (cA n : Nat) (ls : List Ly) (s : Int) (a b : Int) (hab : rangeN ⟨c, h, x, ls⟩ s = (a, b)) (w : World) (hx : Rl w A ls) (ln : n = ls.length) (hn : n ≤ 60) :
    Calls Try.prog 41 #[.agg #[.int .i64 c, .int .i64 h, .int .i64 x, .slice A n cA], .int .i64 s] w fun e w' => e = .returned (.tuple #[.int .i64 a, .int .i64 b]) ∧ Below w.heap.size w w' := by
  have HAB := Lib.hid hab
  clear hab
  have HX := Lib.hid hx; have LX := Lib.hid ln
  have hn1 : n ≤ 1000 := by omega
  clear hx ln
  go_enter Try.func41, Try.ntmps41
  go_wp2_with fail
  refine (rstages8 c h x A cA n ls _ (HX.out.below ((Below.refl _ w).alloc (Nat.le_refl _) _)) LX.out hn).mono ?_
  rintro e w1 ⟨A1, k1, n1, rfl, hn1', hR, hb, hd1, hd2⟩
  have B1 := Lib.hid (chain ((Below.refl w.heap.size w).alloc (Nat.le_refl _) _) hb)
  have N1 := Lib.hid ((NB.new w c h x (.slice A n cA)).below hb)
  obtain ⟨c0, c1, c2, c3⟩ := N1.out.cells
  have R1 := Lib.hid hR; have L1 := Lib.hid hn1'
  obtain ⟨st, hst⟩ : ∃ st, st = stagesN ⟨c, h, x, ls⟩ := ⟨_, rfl⟩
  rw [← hst] at R1 L1
  have HST := Lib.hid hst
  have n60 : n1 ≤ 60 := by
    rw [hn1']
    unfold stagesN
    split
    · have := stK_len ls ls.length; have := LX.out; show (stK ls ls.length).length ≤ 60; omega
    · simp
  clear hb hR hd1 hd2 hn1' hst
  by_cases s0 : s < 0
  · have d0 : decide (s < 0) = true := decide_eq_true s0
    obtain ⟨rfl, rfl⟩ : 0 = a ∧ 0 = b := by have := HAB.out; rw [range_no (by omega)] at this; injection this with z1 z2; exact ⟨z1, z2⟩
    clear c0 c1 c2 c3
    go_wp2_with fail
    go_ret2
    exact ⟨rfl, B1.out⟩
  have d0 : decide (s < 0) = false := decide_eq_false s0
  by_cases s1 : (n1 : Int) ≤ s
  · have d1 : decide ((n1 : Int) ≤ s) = true := decide_eq_true s1
    obtain ⟨rfl, rfl⟩ : 0 = a ∧ 0 = b := by have := HAB.out; rw [range_no (by rw [← HST.out, ← L1.out]; omega)] at this; injection this with z1 z2; exact ⟨z1, z2⟩
    clear c0 c1 c2 c3
    go_wp2_with fail
    go_ret2
    exact ⟨rfl, B1.out⟩
  have d1 : decide ((n1 : Int) ≤ s) = false := decide_eq_false s1
  obtain ⟨j, rfl⟩ : ∃ j : Nat, s = j := ⟨s.toNat, by omega⟩
  have jn : j < n1 := by omega
  have d2 : decide (n1 ≤ j) = false := by simp; omega
  obtain ⟨ha, hb2⟩ : totP ((st.take j).map (atN ⟨c, h, x, ls⟩)) = a ∧ (atN ⟨c, h, x, ls⟩ (st.getD j 0)).p = b := by
    have := HAB.out
    rw [range_yes (by rw [← HST.out, ← L1.out]; exact jn), ← HST.out] at this
    injection this with z1 z2
    exact ⟨z1, z2⟩
  have HA := Lib.hid ha; have HB := Lib.hid hb2
  obtain ⟨bS, oS, rfl, lS, qS⟩ := R1.out (by rw [← L1.out]; omega)
  have QS := Lib.hid qS
  have BD : Hid (∀ k, 0 ≤ totP ((st.take k).map (atN ⟨c, h, x, ls⟩)) ∧ totP ((st.take k).map (atN ⟨c, h, x, ls⟩)) ≤ 100000000) := fun k => by
    have := tot_bd ((st.take k).map (atN ⟨c, h, x, ls⟩)) (fun y hy => by obtain ⟨i, _, rfl⟩ := List.mem_map.1 hy; exact at_ok _ _)
    rw [List.length_map, List.length_take, ← L1.out] at this
    have : min k n1 ≤ 60 := by omega
    omega
  clear ha hb2 qS s0 s1
  go_wp2_with fail
  clear c0 c1 c2 c3
  go_loopg [7, 8] j (fun g s7 s8 wx => ∃ k : Nat, k ≤ j ∧ Hid (g = j - k) ∧ s7 = .int .i64 (totP ((st.take k).map (atN ⟨c, h, x, ls⟩))) ∧ s8 = .int .i64 (k : Int) ∧ Hid (Below w1.heap.size w1 wx))
  case atStart => exact ⟨0, by omega, by show _ = _; omega, rfl, rfl, Below.refl _ _⟩
  case round =>
    obtain ⟨k, hk, HG, rfl, rfl, BK⟩ := hrel
    have BW := Lib.hid (chain B1.out BK.out)
    have NW := Lib.hid (N1.out.below BK.out)
    obtain ⟨c0, c1, c2, c3⟩ := NW.out.cells
    have lN := NW.out.lt
    have kl : k < st.length := by rw [← L1.out]; omega
    obtain ⟨y, hy⟩ : ∃ y, y = st.getD k 0 := ⟨_, rfl⟩
    have gk := st_get kl
    rw [← hy] at gk
    have z0 := (BK.out.cell (p := ⟨bS, oS + k, none⟩) lS).trans (in_cell QS.out gk)
    have lS' := Nat.lt_of_lt_of_le lS BK.out.size
    obtain ⟨t, ht⟩ : ∃ t, t = totP ((st.take k).map (atN ⟨c, h, x, ls⟩)) := ⟨_, rfl⟩
    obtain ⟨q, hq⟩ : ∃ q, q = (atN ⟨c, h, x, ls⟩ y).p := ⟨_, rfl⟩
    obtain ⟨t0, t1⟩ := BD.out k
    have KP : Hid (∀ w', Rl w' A ls → Calls Try.prog 24 #[.agg #[.int .i64 c, .int .i64 h, .int .i64 x, .slice A n cA], .int .i64 y] w' fun e w'' => e = .returned (.int .i64 q) ∧ Below w'.heap.size w' w'') := fun w' z => by rw [hq]; exact rproducts_of c h x A cA n ls y w' z LX.out hn1
    have q01 := (at_ok ⟨c, h, x, ls⟩ y).p
    rw [← hq] at q01
    rw [← ht] at t0 t1
    rw [← ht]
    have HT : Hid (totP ((st.take (k + 1)).map (atN ⟨c, h, x, ls⟩)) = t + q) := by
      show _ = _
      rw [take_get gk, List.map_append, ht, hq]
      exact (tot_snoc _ _).2
    obtain ⟨q0, q1⟩ := q01
    have HQ := Lib.hid hq; have HY := Lib.hid hy; have HTT := Lib.hid ht
    have HC0 : Hid (Below wr.heap.size wr wr.drew) := below_drew wr
    have ka : (0 : Int) ≤ (k : Int) := by omega
    clear gk ht hq hy
    by_cases kj : k < j
    · have ki : (k : Int) < (j : Int) := by omega
      have kn1 : (k : Int) < (n1 : Int) := by omega
      have kn2 : k < n1 := by omega
      have v1 : IntKind.i64.wrap (t + q) = t + q := IntWalk.i64_in _ (by omega)
      have v2 : wrap64 (t + q) = t + q := IntWalk.wrap64_in _ (by omega)
      go_wp2_with fail
      go_region_held3 (fun w' => w'.cell? ⟨w.heap.size, 0, none⟩ = some (.int .i64 c) ∧ w'.cell? ⟨w.heap.size, 1, none⟩ = some (.int .i64 h) ∧ w'.cell? ⟨w.heap.size, 2, none⟩ = some (.int .i64 x) ∧ w'.cell? ⟨w.heap.size, 3, none⟩ = some (.slice A n cA) ∧ w'.cell? ⟨bS, oS + k, none⟩ = some (.int .i64 y))
        (first | exact ⟨g0, g1, g2, g3, g4⟩ | go_keep)
        (first
          | ((go_at_call 24; (with_reducible refine (KP.out _ (HX.out.below (chain BW.out HC0.out))).mono ?_); rintro e w2 ⟨rfl, hb2⟩
              have HC1 := Lib.hid (HC0.out.trans (hb2.mono HC0.out.size))
              have g0 := (HC1.out.cell (p := ⟨w.heap.size, 0, none⟩) lN).trans c0
              have g1 := (HC1.out.cell (p := ⟨w.heap.size, 1, none⟩) lN).trans c1
              have g2 := (HC1.out.cell (p := ⟨w.heap.size, 2, none⟩) lN).trans c2
              have g3 := (HC1.out.cell (p := ⟨w.heap.size, 3, none⟩) lN).trans c3
              have g4 := (HC1.out.cell (p := ⟨bS, oS + k, none⟩) lS').trans z0
              clear hb2))
          | fail)
      have B2 := Lib.hid (chain BK.out HC1.out)
      clear c0 c1 c2 c3 g0 g1 g2 g3 g4 HC0 HC1
      go_wp2_with fail
      go_roundg (j - (k + 1))
      case measure => have := HG.out; omega
      case rel => exact ⟨k + 1, by omega, rfl, by rw [HT.out], by go_num, B2⟩
    · obtain rfl : k = j := by omega
      have kn1 : (k : Int) < (n1 : Int) := by omega
      have kn2 : k < n1 := by omega
      obtain rfl : t = a := HTT.out.trans HA.out
      obtain rfl : q = b := by rw [HQ.out, HY.out]; exact HB.out
      go_wp2_with fail
      go_region_held3 (fun w' => w'.cell? ⟨w.heap.size, 0, none⟩ = some (.int .i64 c) ∧ w'.cell? ⟨w.heap.size, 1, none⟩ = some (.int .i64 h) ∧ w'.cell? ⟨w.heap.size, 2, none⟩ = some (.int .i64 x) ∧ w'.cell? ⟨w.heap.size, 3, none⟩ = some (.slice A n cA) ∧ w'.cell? ⟨bS, oS + k, none⟩ = some (.int .i64 y))
        (first | exact ⟨g0, g1, g2, g3, g4⟩ | go_keep)
        (first
          | ((go_at_call 24; (with_reducible refine (KP.out _ (HX.out.below (chain BW.out HC0.out))).mono ?_); rintro e w2 ⟨rfl, hb2⟩
              have HC1 := Lib.hid (HC0.out.trans (hb2.mono HC0.out.size))
              have g0 := (HC1.out.cell (p := ⟨w.heap.size, 0, none⟩) lN).trans c0
              have g1 := (HC1.out.cell (p := ⟨w.heap.size, 1, none⟩) lN).trans c1
              have g2 := (HC1.out.cell (p := ⟨w.heap.size, 2, none⟩) lN).trans c2
              have g3 := (HC1.out.cell (p := ⟨w.heap.size, 3, none⟩) lN).trans c3
              have g4 := (HC1.out.cell (p := ⟨bS, oS + k, none⟩) lS').trans z0
              clear hb2))
          | fail)
      have B2 := Lib.hid (chain BW.out HC1.out)
      clear c0 c1 c2 c3 g0 g1 g2 g3 g4 HC0 HC1
      go_wp2_with fail
      go_ret2
      exact ⟨rfl, B2.out⟩

theorem gatesL_next (K : Kn) (i : Int) (m : Nat) : gatesL K i (m + 1) = gatesL K i m ++ gatesP K i m := by
  unfold gatesL; rw [List.range_succ, List.flatMap_append]; simp
theorem gatesK_mono (N : Nt) : ∀ {k m : Nat}, k ≤ m → (gatesK N k).length ≤ (gatesK N m).length
  | k, 0, h => by obtain rfl : k = 0 := by omega
                  exact Nat.le_refl _
  | k, m + 1, h => by
    by_cases e : k = m + 1
    · subst e; exact Nat.le_refl _
    · rw [gatesK_next, List.length_append]; have := gatesK_mono N (show k ≤ m by omega); omega
theorem gatesT_take (i p : Int) {ts : List Tm} {k : Nat} {t : Tm} (h : ts[k]? = some t) : gatesT i p 0 (ts.take (k + 1)) = gatesT i p 0 (ts.take k) ++ [⟨i, p, (k : Nat), t.x, t.w⟩] := by
  have hk := (List.getElem?_eq_some_iff.1 h).1
  rw [take_get h, gatesT_app, List.length_take, Nat.zero_add, Nat.min_eq_left (by omega)]

set_option maxHeartbeats 4000000 in
set_option maxRecDepth 100000 in
theorem rgates8 (c h x : Int) (A : Option Addr) (cA n : Nat) (ls : List Ly) (w : World) (hx : Rl w A ls) (ln : n = ls.length) (hn : n ≤ 60) :
    Calls Try.prog 80 #[.agg #[.int .i64 c, .int .i64 h, .int .i64 x, .slice A n cA]] w (RowTo gcells (gatesN ⟨c, h, x, ls⟩) w) := by
  obtain ⟨i0, hi, hz0, hz1, hz2⟩ := info_parts Try.info54
  obtain ⟨er, her⟩ : ∃ er, er = errN ⟨c, h, x, ls⟩ := ⟨_, rfl⟩
  have HER := Lib.hid her
  clear her
  have HX := Lib.hid hx; have LX := Lib.hid ln
  have hn1 : n ≤ 1000 := by omega
  clear hx ln
  go_enter Try.func80, Try.ntmps80
  go_wp2_with fail
  refine (rshapes_any c h x A cA n ls _ (HX.out.below ((Below.refl _ w).alloc (Nat.le_refl _) _)) LX.out hn1).mono ?_
  rintro e w1 ⟨A1, k1, n1, rfl, hn1', hR, hb, hd1, hd2⟩
  rw [← HER.out]
  have B1 := Lib.hid (chain ((Below.refl w.heap.size w).alloc (Nat.le_refl _) _) hb)
  have N1 := Lib.hid ((NB.new w c h x (.slice A n cA)).below hb)
  obtain ⟨c0, c1, c2, c3⟩ := N1.out.cells
  have R1 := Lib.hid hR; have L1 := Lib.hid hn1'
  clear hb hR hd1 hd2 hn1'
  by_cases h0 : ¬ er = 0
  · have b0 : (er == 0) = false := by simpa using h0
    have E0 : Hid (gatesN ⟨c, h, x, ls⟩ = []) := if_neg (by rw [← HER.out]; exact h0)
    clear h0
    go_wp2_with fail
    clear c0 c1 c2 c3
    go_loopg [5, 6, 7, 8, 9] 1 (fun g s5 s6 _ _ _ wx => Hid (g = 1) ∧ s5 = .slice none 0 0 ∧ s6 = .int .i64 0 ∧ Hid (Below w1.heap.size w1 wx))
    case atStart => exact ⟨rfl, rfl, rfl, Below.refl _ _⟩
    case round =>
      obtain ⟨HG, rfl, rfl, BK⟩ := hrel
      have BW := Lib.hid (chain B1.out BK.out)
      have NW := Lib.hid (N1.out.below BK.out)
      obtain ⟨c0, c1, c2, c3⟩ := NW.out.cells
      by_cases n0 : 0 < n
      · have n0i : (0 : Int) < (n : Int) := by omega
        go_wp2_with fail
        go_ret
        exact ⟨none, 0, 0, rfl, by rw [E0.out]; rfl, by rw [E0.out]; exact Rg.nil _ _ _, BW.out, Nat.le_refl _, Nat.zero_le _⟩
      · obtain rfl : n = 0 := by omega
        go_wp2_with fail
        go_ret
        exact ⟨none, 0, 0, rfl, by rw [E0.out]; rfl, by rw [E0.out]; exact Rg.nil _ _ _, BW.out, Nat.le_refl _, Nat.zero_le _⟩
  have h0 : er = 0 := by omega
  have b0 : (er == 0) = true := by rw [h0]; rfl
  have he : errN ⟨c, h, x, ls⟩ = 0 := HER.out.symm.trans h0
  have HE := Lib.hid he
  have n8 : n ≤ 8 := by rw [LX.out]; exact (ok_all he).2.2.2.2.2
  have hR := R1.out
  have hl1 := L1.out
  rw [shN_ok he] at hR hl1
  rw [sh_len, ← LX.out] at hl1
  obtain ⟨bS, oS, rfl, lS, qS⟩ := hR (by rw [sh_len]; omega)
  have QS := Lib.hid qS; have HL1 := Lib.hid hl1
  have GL : Hid (∀ i p : Nat, i < n → (p : Int) ≤ (atN ⟨c, h, x, ls⟩ (i : Nat)).u.n → (gatesK ⟨c, h, x, ls⟩ i ++ gatesL (atN ⟨c, h, x, ls⟩ (i : Nat)) (i : Nat) p).length ≤ 512) := fun i p hin hp => by
    have g : Good (atN ⟨c, h, x, ls⟩ (i : Nat)) := good_at (isB_yes ⟨HE.out, by omega, by show (i : Int) < (ls.length : Int); rw [← LX.out]; omega⟩)
    have h1 : (gatesK ⟨c, h, x, ls⟩ (i + 1)).length ≤ 512 := Nat.le_trans (gatesK_mono _ (show i + 1 ≤ ls.length by rw [← LX.out]; omega)) (by rw [← show gatesN ⟨c, h, x, ls⟩ = gatesK ⟨c, h, x, ls⟩ ls.length from if_pos HE.out]; exact gates_bd)
    rw [gatesK_next, List.length_append, gatesL_len g] at h1
    rw [List.length_append, gatesL_len g]
    have : p * (perK (atN ⟨c, h, x, ls⟩ (i : Nat))).toNat ≤ (atN ⟨c, h, x, ls⟩ (i : Nat)).u.n.toNat * (perK (atN ⟨c, h, x, ls⟩ (i : Nat))).toNat := Nat.mul_le_mul_right _ (by omega)
    omega
  clear h0 he hR hl1 qS
  go_wp2_with fail
  clear c0 c1 c2 c3
  go_loopg [5, 6, 7, 8, 9] n (fun g s5 s6 _ _ _ wx => ∃ i : Nat, i ≤ n ∧ Hid (g = n - i) ∧ s6 = .int .i64 (i : Int) ∧ Hid (wx.ownsRow w1.heap.size 54 5 s5 (gatesK ⟨c, h, x, ls⟩ i).length ((gatesK ⟨c, h, x, ls⟩ i).flatMap gcells)) ∧ Hid (Below w1.heap.size w1 wx))
  case atStart => exact ⟨0, by omega, by show _ = _; omega, rfl, World.ownsRow_nil _ _ _ _, Below.refl _ _⟩
  case round =>
    obtain ⟨i, hi', HG, rfl, OW, BK⟩ := hrel
    have BW := Lib.hid (chain B1.out BK.out)
    have NW := Lib.hid (N1.out.below BK.out)
    obtain ⟨c0, c1, c2, c3⟩ := NW.out.cells
    by_cases iN : i < n
    · have ii : (i : Int) < (n : Int) := by omega
      have il : i < ls.length := by rw [← LX.out]; exact iN
      obtain ⟨K, hK⟩ : ∃ K, K = atN ⟨c, h, x, ls⟩ (i : Nat) := ⟨_, rfl⟩
      have hl := get_ly il
      have hKe := hK.trans (at_some HE.out hl)
      have g2 := sh_get ls ⟨c, h, x⟩ (i + 1) (by omega)
      rw [show endS ⟨c, h, x⟩ (ls.take (i + 1)) = K.u by rw [hKe, List.take_add_one, hl, Option.toList, end_app]; rfl] at g2
      obtain ⟨m, hm⟩ : ∃ m, m = i + 1 := ⟨_, rfl⟩
      have hl1 := HL1.out
      have ma : (0 : Int) ≤ (m : Int) := by omega
      have mb : (m : Int) < (n1 : Int) := by omega
      have mb' : m < n1 := by omega
      have v1 : IntKind.i64.wrap ((i : Int) + 1) = (m : Int) := next_i64 hm (Nat.lt_succ_self i) (by omega)
      have v2 : wrap64 ((i : Int) + 1) = (m : Int) := next_wrap hm (Nat.lt_succ_self i) (by omega)
      rw [← hm] at g2
      have G2 := Lib.hid g2
      have V1 := Lib.hid v1; have V2 := Lib.hid v2
      clear v1 v2
      have GD : Hid (Good K) := by rw [hK]; exact good_at (isB_yes ⟨HE.out, by omega, by show (i : Int) < (ls.length : Int); omega⟩)
      have un := size_bd K.u
      obtain ⟨ku, hku⟩ : ∃ ku : Nat, K.u.n = ku := ⟨K.u.n.toNat, by omega⟩
      have ku8 : ku ≤ 128 := by omega
      have PS : Hid (∀ w, Calls Try.prog 52 #[.agg #[.int .i64 K.u.c, .int .i64 K.u.h, .int .i64 K.u.x]] w fun e w' => e = .returned (.int .i64 (ku : Int)) ∧ Below w.heap.size w w') := fun w => by rw [← hku]; exact rsize_any _ _ _ w
      have TK : Hid (∀ p : Nat, p < ku → termsN ⟨c, h, x, ls⟩ (i : Nat) (p : Nat) = termsK K (p : Nat) ∧ (termsK K (p : Nat)).length ≤ 1152) := fun p hp => by
        have hh : hasK K (p : Nat) = true := has_yes (by omega) (by omega)
        refine ⟨by have := hh; rw [hK] at this ⊢; exact termsN_is this, ?_⟩
        have h1 := terms_len GD.out (p : Nat)
        have h2 := per_bd GD.out
        omega
      have GLK : Hid (∀ p : Nat, p ≤ ku → (gatesK ⟨c, h, x, ls⟩ i ++ gatesL K (i : Nat) p).length ≤ 512) := fun p hp => by rw [hK]; exact GL.out i p iN (by rw [← hK]; omega)
      have GN : Hid (gatesK ⟨c, h, x, ls⟩ (i + 1) = gatesK ⟨c, h, x, ls⟩ i ++ gatesL K (i : Nat) ku) := by show _ = _; rw [gatesK_next, ← hK, hku]; rfl
      clear hK hKe hl g2 hl1 un hku hm il
      go_wp2_with fail
      clear c0 c1 c2 c3
      go_loopg [5, 7, 8, 9] ku (fun g s5 s7 _ _ wx => ∃ p : Nat, p ≤ ku ∧ Hid (g = ku - p) ∧ s7 = .int .i64 (p : Int) ∧ Hid (wx.ownsRow w1.heap.size 54 5 s5 (gatesK ⟨c, h, x, ls⟩ i ++ gatesL K (i : Nat) p).length ((gatesK ⟨c, h, x, ls⟩ i ++ gatesL K (i : Nat) p).flatMap gcells)) ∧ Hid (Below w1.heap.size w1 wx))
      case atStart => exact ⟨0, by omega, by show _ = _; omega, rfl, by show World.ownsRow _ _ _ _ _ _ _; simpa [gatesL] using OW.out, BK⟩
      case round =>
        obtain ⟨p, hp, HG2, rfl, OP, BP⟩ := hrel
        have q2 : ∀ j u, ((shL ⟨c, h, x⟩ ls).flatMap scells)[j]? = some u → wr.cell? ⟨bS, oS + j, none⟩ = some u := fun j u hu => (BP.out.cell (p := ⟨bS, oS + j, none⟩) lS).trans (QS.out j u hu)
        obtain ⟨t0, t1, t2⟩ := sh_at q2 G2.out
        clear q2
        have v1 := V1.out
        have v2 := V2.out
        go_wp2_with fail
        refine (PS.out _).mono ?_
        rintro e w3 ⟨rfl, hb⟩
        clear v1 v2
        have B3 := Lib.hid (chain BP.out hb)
        have O3 := Lib.hid (own_belowE OP.out hb)
        have BW3 := Lib.hid (chain B1.out B3.out)
        have NW3 := Lib.hid (N1.out.below B3.out)
        clear hb OP BP t0 t1 t2
        obtain ⟨c0, c1, c2, c3⟩ := NW3.out.cells
        by_cases pk : p < ku
        · have pki : (p : Int) < (ku : Int) := by omega
          obtain ⟨ts, hts⟩ : ∃ ts, ts = termsK K (p : Nat) := ⟨_, rfl⟩
          obtain ⟨tk1, tk2⟩ := TK.out p pk
          rw [← hts] at tk1 tk2
          have TK1 := Lib.hid tk1; have TK2 := Lib.hid tk2; have HTS := Lib.hid hts
          clear tk1 tk2 hts
          go_wp2_with fail
          refine (rterms_new c h x A cA n ls (i : Int) (p : Int) _ (HX.out.below BW3.out) LX.out hn1).mono ?_
          rintro e w4 ⟨A4, k4, n4, rfl, hn4, hR4, hb, hd1, hd2, hnew⟩
          rw [TK1.out] at hn4 hR4
          have B4 := Lib.hid (chain B3.out hb)
          have O4 := Lib.hid (own_belowE O3.out hb)
          have R4 := Lib.hid hR4; have L4 := Lib.hid hn4
          have NEQ : Hid (∀ a, A4 = some a → u5.ownBlock ≠ some a.block) := fun a ha he => by
            have := (O3.out.lt _ he).2
            have := hnew a ha
            omega
          have n1152 : n4 ≤ 1152 := by rw [hn4]; exact TK2.out
          have gl := GLK.out p hp
          clear hb hR4 hn4 hd1 hd2 hnew O3 B3 c0 c1 c2 c3 BW3 NW3
          go_wp2_with fail
          go_loopg [5, 9] n4 (fun g s5 s9 wx => ∃ k : Nat, k ≤ n4 ∧ Hid (g = n4 - k) ∧ s9 = .int .i64 (k : Int) ∧ Hid (wx.ownsRow w1.heap.size 54 5 s5 (gatesK ⟨c, h, x, ls⟩ i ++ gatesL K (i : Nat) p ++ gatesT (i : Nat) (p : Nat) 0 (ts.take k)).length ((gatesK ⟨c, h, x, ls⟩ i ++ gatesL K (i : Nat) p ++ gatesT (i : Nat) (p : Nat) 0 (ts.take k)).flatMap gcells)) ∧ Hid (Rg tcells wx A4 ts) ∧ Hid (∀ a, A4 = some a → s5.ownBlock ≠ some a.block) ∧ Hid (Below w1.heap.size w1 wx))
          case atStart => exact ⟨0, by omega, by show _ = _; omega, rfl, by show World.ownsRow _ _ _ _ _ _ _; simpa [gatesT] using O4.out, R4, NEQ, B4⟩
          case round =>
            obtain ⟨k, hk, HG3, rfl, OK, RK, NK, BK3⟩ := hrel
            by_cases kn : k < n4
            · have ki : (k : Int) < (n4 : Int) := by omega
              have ka : (0 : Int) ≤ (k : Int) := by omega
              obtain ⟨t, ht⟩ : ∃ t, ts[k]? = some t := ⟨_, List.getElem?_eq_getElem (by rw [← L4.out]; exact kn)⟩
              obtain ⟨b4, o4, rfl, l4, q4⟩ := RK.out (by rw [← L4.out]; omega)
              have z0 := (Rg.at tcells_len q4 ht) 0 _ rfl
              have z1 := (Rg.at tcells_len q4 ht) 1 _ rfl
              rw [Nat.add_zero] at z0
              have HT := Lib.hid ht
              have E1 : Hid (gatesK ⟨c, h, x, ls⟩ i ++ gatesL K (i : Nat) p ++ gatesT (i : Nat) (p : Nat) 0 (ts.take (k + 1)) = (gatesK ⟨c, h, x, ls⟩ i ++ gatesL K (i : Nat) p ++ gatesT (i : Nat) (p : Nat) 0 (ts.take k)) ++ [⟨(i : Nat), (p : Nat), (k : Nat), t.x, t.w⟩]) := by show _ = _; rw [gatesT_take _ _ ht, ← List.append_assoc]
              obtain ⟨L, hL⟩ : ∃ L, L = (gatesK ⟨c, h, x, ls⟩ i ++ gatesL K (i : Nat) p ++ gatesT (i : Nat) (p : Nat) 0 (ts.take k)).length := ⟨_, rfl⟩
              have L0 : L ≤ 2000 := by
                rw [hL, List.length_append, gatesT_len, List.length_take]
                omega
              have hO := OK.out
              rw [← hL] at hO
              have O5 := Lib.hid hO
              have HL := Lib.hid hL
              have a1 : u5.ownBlock ≠ some b4 := NK.out _ rfl
              have A1' := Lib.hid a1
              have Q4 := Lib.hid q4
              have hs := BK3.out.size
              obtain ⟨tx, hx'⟩ : ∃ tx, tx = t.x := ⟨_, rfl⟩
              obtain ⟨tw, hw'⟩ : ∃ tw, tw = t.w := ⟨_, rfl⟩
              have z0 : wr.cell? ⟨b4, o4 + k * 2, none⟩ = some (.int .i64 tx) := by rw [hx']; exact z0
              have z1 : wr.cell? ⟨b4, o4 + k * 2 + 1, none⟩ = some (.int .i64 tw) := by rw [hw']; exact z1
              have HXW := Lib.hid (And.intro hx' hw')
              clear q4 ht hO hL a1 OK hx' hw'
              go_wp2_with fail
              go_region_held3 (fun w' => w'.cell? ⟨b4, o4 + k * 2, none⟩ = some (.int .i64 tx) ∧ w'.cell? ⟨b4, o4 + k * 2 + 1, none⟩ = some (.int .i64 tw))
                (first
                  | exact ⟨z0, z1⟩
                  | (simp only [World.cell?_alloc_some, World.cell?_drew, z0, z1, Option.isSome_some, and_self]; done)
                  | go_keep
                  | (go_split_ands
                     refine ⟨?_, ?_⟩
                     · (rw [hgrow.cell_far _ (by simp; omega) (Ne.symm A1'.out)]; assumption)
                     · (rw [hgrow.cell_far _ (by simp; omega) (Ne.symm A1'.out)]; assumption)))
                ((refine step_append_lies _ (by rfl) _ _ _ (by rfl) w1.heap.size 54 i0 _ 5 40 Try.underlying111 hi hz0 hz1 hz2 rfl (by omega) u5 L _ (by rfl) ((O5.out.alloc _).drew) ⟨wr.heap.size, 0, none⟩ 1 1 [.int .i64 (i : Int), .int .i64 (p : Int), .int .i64 (k : Int), .int .i64 tx, .int .i64 tw] (by rfl) (by rfl) (World.news_of_block (cs := #[.int .i64 (i : Int), .int .i64 (p : Int), .int .i64 (k : Int), .int .i64 tx, .int .i64 tw]) (t := 54) (fr := (0, 0)) (heap_alloc_new wr _)) (by simp [Value.oneCell']) (by omega) (by unfold maxLen; omega) (by omega) (by simp; omega) (wr.heap.size + 1) (by simp) ?_; intro gg cap w5 hown2 hgrow hat hlt2))
              have O6 : Hid (w5.ownsRow w1.heap.size 54 5 (.slice (some ⟨gg, 0, none⟩) (L + 1) cap) (gatesK ⟨c, h, x, ls⟩ i ++ gatesL K (i : Nat) p ++ gatesT (i : Nat) (p : Nat) 0 (ts.take (k + 1))).length ((gatesK ⟨c, h, x, ls⟩ i ++ gatesL K (i : Nat) p ++ gatesT (i : Nat) (p : Nat) 0 (ts.take (k + 1))).flatMap gcells)) := by
                show World.ownsRow _ _ _ _ _ _ _
                rw [E1.out, List.length_append, ← HL.out, List.flatMap_append]
                simp only [List.flatMap_cons, List.flatMap_nil, List.append_nil, gcells, List.length_cons, List.length_nil]
                rw [← HXW.out.1, ← HXW.out.2]
                exact hown2
              have B6 : Hid (Below w1.heap.size w1 w5) := ((BK3.out.alloc hs _).drew).grown hgrow (by simp; omega) (fun q hqq => (O5.out.lt _ hqq).1)
              have R6 : Hid (Rg tcells w5 (some ⟨b4, o4, none⟩) ts) := fun _ => ⟨b4, o4, rfl, by have := hgrow.size; simp at this; omega, fun j u hu => by
                rw [hgrow.cell_far _ (by simp; omega) (Ne.symm A1'.out)]
                have := Q4.out j u hu
                simp [World.cell?_alloc_some, this]⟩
              have N6 : Hid (∀ a, (some (⟨b4, o4, none⟩ : Addr)) = some a → (Value.slice (some ⟨gg, 0, none⟩) (L + 1) cap).ownBlock ≠ some a.block) := fun a ha he => by
                rw [← Option.some.inj ha] at he
                simp [Value.ownBlock] at he
                rcases hat with hat | hat
                · exact A1'.out (by rw [hat, he])
                · omega
              clear hown2 hgrow hat hlt2 O5 A1' Q4 hs z0 z1
              go_wp2_with fail
              go_roundg (n4 - (k + 1))
              case measure => have := HG3.out; omega
              case rel => exact ⟨k + 1, by omega, rfl, by go_num, O6, R6, N6, B6⟩
            · obtain rfl : k = n4 := by omega
              have e4 : ts.take k = ts := by rw [L4.out, List.take_length]
              have O7 : Hid (wr.ownsRow w1.heap.size 54 5 u5 (gatesK ⟨c, h, x, ls⟩ i ++ gatesL K (i : Nat) (p + 1)).length ((gatesK ⟨c, h, x, ls⟩ i ++ gatesL K (i : Nat) (p + 1)).flatMap gcells)) := by
                have := OK.out
                rw [e4] at this
                show World.ownsRow _ _ _ _ _ _ _
                rw [gatesL_next, ← List.append_assoc]
                unfold gatesP
                rw [← HTS.out]
                exact this
              clear e4
              go_wp2_with fail
              go_roundg (ku - (p + 1))
              case measure => have := HG2.out; omega
              case rel => exact ⟨p + 1, by omega, rfl, by go_num, O7, BK3⟩
        · obtain rfl : p = ku := by omega
          have O7 : Hid (w3.ownsRow w1.heap.size 54 5 u5 (gatesK ⟨c, h, x, ls⟩ (i + 1)).length ((gatesK ⟨c, h, x, ls⟩ (i + 1)).flatMap gcells)) := by
            show World.ownsRow _ _ _ _ _ _ _
            rw [GN.out]; exact O3.out
          go_wp2_with fail
          go_roundg (n - (i + 1))
          case measure => have := HG.out; omega
          case rel => exact ⟨i + 1, by omega, rfl, by go_num, O7, B3⟩
    · obtain rfl : i = n := by omega
      have E0 : Hid (gatesN ⟨c, h, x, ls⟩ = gatesK ⟨c, h, x, ls⟩ i) := by show _ = _; rw [show gatesN ⟨c, h, x, ls⟩ = gatesK ⟨c, h, x, ls⟩ ls.length from if_pos HE.out, LX.out]
      obtain ⟨A', c', rfl, e1, hr, e3, e4⟩ := own_cap gcells_len (by decide) OW.out
      have HR := Lib.hid hr; have E3 := Lib.hid e3; have E4 := Lib.hid e4
      clear hr e1 e3 e4
      go_wp2_with fail
      go_ret
      exact ⟨A', c', _, rfl, by rw [E0.out], by rw [E0.out]; exact HR.out, BW.out, E3.out, E4.out⟩

def GC (w : World) (b : Nat) (g : Gt) : Prop := w.heap[b]? = some (.cells #[.int .i64 g.l, .int .i64 g.a, .int .i64 g.t, .int .i64 g.x, .int .i64 g.w] 54 (0, 0))
theorem GC.lt {w : World} {b : Nat} {g : Gt} (H : GC w b g) : b < w.heap.size := (Array.getElem?_eq_some_iff.1 H).1
theorem GC.below {w w' : World} {b : Nat} {g : Gt} (H : GC w b g) (hb : Below w.heap.size w w') : GC w' b g := (hb.block b H.lt).trans H
theorem GC.cells {w : World} {b : Nat} {g : Gt} (H : GC w b g) : w.cell? ⟨b, 0, none⟩ = some (.int .i64 g.l) ∧ w.cell? ⟨b, 1, none⟩ = some (.int .i64 g.a) ∧ w.cell? ⟨b, 2, none⟩ = some (.int .i64 g.t) ∧ w.cell? ⟨b, 3, none⟩ = some (.int .i64 g.x) ∧ w.cell? ⟨b, 4, none⟩ = some (.int .i64 g.w) := by
  refine ⟨?_, ?_, ?_, ?_, ?_⟩ <;> (rw [Lib.cell_of_heap H]; rfl)
theorem GC.frozen {w : World} {b : Nat} {g : Gt} (H : GC w b g) (j : Nat) : w.frozen? ⟨b, j, none⟩ = false := Lib.frozen_of_heap H j
def gv (g : Gt) : Value := .agg #[.int .i64 g.l, .int .i64 g.a, .int .i64 g.t, .int .i64 g.x, .int .i64 g.w]
theorem gc_two (w : World) (a : Obj) : GC ((w.alloc a).alloc (.cells #[.int .i64 0, .int .i64 0, .int .i64 0, .int .i64 0, .int .i64 0] 54)) (w.heap.size + 1) Gt.z := by
  have := heap_alloc_new (w.alloc a) (.cells #[.int .i64 0, .int .i64 0, .int .i64 0, .int .i64 0, .int .i64 0] 54)
  rwa [show (w.alloc a).heap.size = w.heap.size + 1 by simp] at this
theorem below_set5 {w0 w : World} {B b : Nat} (H : Below B w0 w) (hb : B ≤ b) (v0 v1 v2 v3 v4 : Value) :
    Below B w0 (((((w.setCell ⟨b, 0, none⟩ v0).setCell ⟨b, 1, none⟩ v1).setCell ⟨b, 2, none⟩ v2).setCell ⟨b, 3, none⟩ v3).setCell ⟨b, 4, none⟩ v4) :=
  ((((H.setCell (p := ⟨b, 0, none⟩) hb _).setCell (p := ⟨b, 1, none⟩) hb _).setCell (p := ⟨b, 2, none⟩) hb _).setCell (p := ⟨b, 3, none⟩) hb _).setCell (p := ⟨b, 4, none⟩) hb _

set_option maxHeartbeats 2000000 in
set_option maxRecDepth 100000 in
theorem rgate8 (c h x : Int) (A : Option Addr) (cA n : Nat) (ls : List Ly) (g : Int) (w : World) (hx : Rl w A ls) (ln : n = ls.length) (hn : n ≤ 60) :
    Calls Try.prog 45 #[.agg #[.int .i64 c, .int .i64 h, .int .i64 x, .slice A n cA], .int .i64 g] w fun e w' => e = .returned (.tuple #[gv (gateN ⟨c, h, x, ls⟩ g), .bool (hasG ⟨c, h, x, ls⟩ g)]) ∧ Below w.heap.size w w' := by
  have HX := Lib.hid hx; have LX := Lib.hid ln
  have hn1 : n ≤ 1000 := by omega
  clear hx ln
  go_enter Try.func45, Try.ntmps45
  go_wp2_with fail
  refine (rgates8 c h x A cA n ls _ (HX.out.below (below_two w _ _)) LX.out hn).mono ?_
  rintro e w1 ⟨A1, k1, n1, rfl, hn1', hR, hb, hd1, hd2⟩
  have B1 := Lib.hid (chain (below_two w _ _) hb)
  have G1 := Lib.hid ((gc_two w (.cells #[.int .i64 c, .int .i64 h, .int .i64 x, .slice A n cA] 26)).below hb)
  have R1 := Lib.hid hR; have L1 := Lib.hid hn1'
  obtain ⟨y0, y1, y2, y3, y4⟩ := G1.out.cells
  have f0 := G1.out.frozen 0
  have f1 := G1.out.frozen 1
  have f2 := G1.out.frozen 2
  have f3 := G1.out.frozen 3
  have f4 := G1.out.frozen 4
  clear hb hR hd1 hd2 hn1'
  by_cases g0 : g < 0
  · have d0 : decide (g < 0) = true := decide_eq_true g0
    have E0 : Hid (hasG ⟨c, h, x, ls⟩ g = false) := decide_eq_false (by omega)
    have E1 : Hid (gateN ⟨c, h, x, ls⟩ g = Gt.z) := if_neg (by rw [E0.out]; decide)
    go_wp2_with fail
    exact bodyPost_ret (v := .tuple #[gv Gt.z, .bool false]) (by simp [results, Try.results45, go_sem, gv, Gt.z, y0, y1, y2, y3, y4]) rfl ⟨by rw [E0.out, E1.out], below_set5 B1.out (by omega) _ _ _ _ _⟩
  have d0 : decide (g < 0) = false := decide_eq_false g0
  by_cases g1 : (n1 : Int) ≤ g
  · have d1 : decide ((n1 : Int) ≤ g) = true := decide_eq_true g1
    have E0 : Hid (hasG ⟨c, h, x, ls⟩ g = false) := decide_eq_false (by rw [← L1.out]; omega)
    have E1 : Hid (gateN ⟨c, h, x, ls⟩ g = Gt.z) := if_neg (by rw [E0.out]; decide)
    go_wp2_with fail
    exact bodyPost_ret (v := .tuple #[gv Gt.z, .bool false]) (by simp [results, Try.results45, go_sem, gv, Gt.z, y0, y1, y2, y3, y4]) rfl ⟨by rw [E0.out, E1.out], below_set5 B1.out (by omega) _ _ _ _ _⟩
  have d1 : decide ((n1 : Int) ≤ g) = false := decide_eq_false g1
  obtain ⟨j, rfl⟩ : ∃ j : Nat, g = j := ⟨g.toNat, by omega⟩
  have jn : j < n1 := by omega
  have jni : (j : Int) < (n1 : Int) := by omega
  have d2 : decide (n1 ≤ j) = false := by simp; omega
  have E0 : Hid (hasG ⟨c, h, x, ls⟩ (j : Nat) = true) := decide_eq_true (by rw [← L1.out]; omega)
  obtain ⟨G, hG⟩ : ∃ G, G = (gatesN ⟨c, h, x, ls⟩).getD j Gt.z := ⟨_, rfl⟩
  have E1 : Hid (gateN ⟨c, h, x, ls⟩ (j : Nat) = G) := by show _ = _; rw [hG]; exact if_pos E0.out
  obtain ⟨b1, o1, rfl, l1, q1⟩ := R1.out (by rw [← L1.out]; omega)
  have gg := gt_get (show j < (gatesN ⟨c, h, x, ls⟩).length by rw [← L1.out]; exact jn)
  rw [← hG] at gg
  obtain ⟨z0, z1, z2, z3, z4⟩ := g_cells q1 gg
  obtain ⟨gl, ga, gt, gx, gw⟩ := G
  clear q1 gg hG g0 g1
  go_wp2_with fail
  exact bodyPost_ret (v := .tuple #[gv ⟨gl, ga, gt, gx, gw⟩, .bool true]) (by simp [results, Try.results45, go_sem, gv, y0, y1, y2, y3, y4]) rfl ⟨by rw [E0.out, E1.out], below_set5 B1.out (by omega) _ _ _ _ _⟩

set_option maxHeartbeats 2000000 in
set_option maxRecDepth 100000 in
theorem rindex8 (c h x : Int) (A : Option Addr) (cA n : Nat) (ls : List Ly) (l a t r : Int) (hr : indexN ⟨c, h, x, ls⟩ l a t = r) (w : World) (hx : Rl w A ls) (ln : n = ls.length) (hn : n ≤ 60) :
    Calls Try.prog 51 #[.agg #[.int .i64 c, .int .i64 h, .int .i64 x, .slice A n cA], .int .i64 l, .int .i64 a, .int .i64 t] w fun e w' => e = .returned (.int .i64 r) ∧ Below w.heap.size w w' := by
  have HR := Lib.hid hr
  clear hr
  have HX := Lib.hid hx; have LX := Lib.hid ln
  have hn1 : n ≤ 1000 := by omega
  clear hx ln
  go_enter Try.func51, Try.ntmps51
  go_wp2_with fail
  refine (rgates8 c h x A cA n ls _ (HX.out.below ((Below.refl _ w).alloc (Nat.le_refl _) _)) LX.out hn).mono ?_
  rintro e w1 ⟨A1, k1, n1, rfl, hn1', hR, hb, hd1, hd2⟩
  have B1 := Lib.hid (chain ((Below.refl w.heap.size w).alloc (Nat.le_refl _) _) hb)
  obtain ⟨gs, hgs⟩ : ∃ gs, gs = gatesN ⟨c, h, x, ls⟩ := ⟨_, rfl⟩
  rw [← hgs] at hR hn1'
  have n512 : n1 ≤ 512 := by rw [hn1', hgs]; exact gates_bd
  have R1 := Lib.hid hR; have L1 := Lib.hid hn1'
  have I0 : Hid (idxL l a t (gs.drop 0) 0 = r) := by show _ = _; rw [hgs]; exact HR.out
  clear hb hR hd1 hd2 hn1' hgs
  go_wp2_with fail
  go_loopg [10] n1 (fun g s10 wx => ∃ k : Nat, k ≤ n1 ∧ Hid (g = n1 - k) ∧ s10 = .int .i64 (k : Int) ∧ Hid (idxL l a t (gs.drop k) k = r) ∧ Hid (Below w1.heap.size w1 wx))
  case atStart => exact ⟨0, by omega, by show _ = _; omega, rfl, I0, Below.refl _ _⟩
  case round =>
    obtain ⟨k, hk, HG, rfl, IK, BK⟩ := hrel
    by_cases kn : k < n1
    · have ki : (k : Int) < (n1 : Int) := by omega
      obtain ⟨b1, o1, rfl, l1, q1⟩ := R1.out (by rw [← L1.out]; omega)
      obtain ⟨g, hg⟩ : ∃ g, gs[k]? = some g := ⟨_, List.getElem?_eq_getElem (by rw [← L1.out]; exact kn)⟩
      obtain ⟨p0, p1, p2, _, _⟩ := g_cells q1 hg
      have z0 := (BK.out.cell (p := ⟨b1, o1 + k * 5, none⟩) l1).trans p0
      have z1 := (BK.out.cell (p := ⟨b1, o1 + k * 5 + 1, none⟩) l1).trans p1
      have z2 := (BK.out.cell (p := ⟨b1, o1 + k * 5 + 2, none⟩) l1).trans p2
      have HGG := Lib.hid hg
      clear q1 hg p0 p1 p2
      by_cases e1 : g.l = l
      · have d1 : (g.l == l) = true := by simpa using e1
        by_cases e2 : g.a = a
        · have d2 : (g.a == a) = true := by simpa using e2
          by_cases e3 : g.t = t
          · have d3 : (g.t == t) = true := by simpa using e3
            obtain rfl : (k : Int) = r := (idx_hit HGG.out ⟨e1, e2, e3⟩).symm.trans IK.out
            clear e1 e2 e3
            go_wp2_with fail
            go_ret
            exact ⟨rfl, chain B1.out BK.out⟩
          · have d3 : (g.t == t) = false := by simpa using e3
            have I2 : Hid (idxL l a t (gs.drop (k + 1)) (k + 1) = r) := (idx_miss HGG.out (fun z => e3 z.2.2)).symm.trans IK.out
            clear e1 e2 e3
            go_wp2_with fail
            go_roundg (n1 - (k + 1))
            case measure => have := HG.out; omega
            case rel => exact ⟨k + 1, by omega, rfl, by go_num, I2, BK⟩
        · have d2 : (g.a == a) = false := by simpa using e2
          have I2 : Hid (idxL l a t (gs.drop (k + 1)) (k + 1) = r) := (idx_miss HGG.out (fun z => e2 z.2.1)).symm.trans IK.out
          clear e1 e2
          go_wp2_with fail
          go_roundg (n1 - (k + 1))
          case measure => have := HG.out; omega
          case rel => exact ⟨k + 1, by omega, rfl, by go_num, I2, BK⟩
      · have d1 : (g.l == l) = false := by simpa using e1
        have I2 : Hid (idxL l a t (gs.drop (k + 1)) (k + 1) = r) := (idx_miss HGG.out (fun z => e1 z.1)).symm.trans IK.out
        clear e1
        go_wp2_with fail
        go_roundg (n1 - (k + 1))
        case measure => have := HG.out; omega
        case rel => exact ⟨k + 1, by omega, rfl, by go_num, I2, BK⟩
    · obtain rfl : k = n1 := by omega
      obtain rfl : -1 = r := by
        have := IK.out
        rw [List.drop_of_length_le (by rw [← L1.out]; exact Nat.le_refl _)] at this
        exact this
      go_wp2_with fail
      go_ret
      exact ⟨rfl, chain B1.out BK.out⟩

theorem range_bd {c h x : Int} {ls : List Ly} (hn : ls.length ≤ 60) (s : Int) : (0 ≤ (rangeN ⟨c, h, x, ls⟩ s).1 ∧ (rangeN ⟨c, h, x, ls⟩ s).1 ≤ 100000000) ∧ (0 ≤ (rangeN ⟨c, h, x, ls⟩ s).2 ∧ (rangeN ⟨c, h, x, ls⟩ s).2 ≤ 2000000) := by
  unfold rangeN
  split
  · have l60 : (stagesN ⟨c, h, x, ls⟩).length ≤ 60 := by
      unfold stagesN
      split
      · have := stK_len ls ls.length; show (stK ls ls.length).length ≤ 60; omega
      · simp
    have := tot_bd (((stagesN ⟨c, h, x, ls⟩).take s.toNat).map (atN ⟨c, h, x, ls⟩)) (fun y hy => by obtain ⟨i, _, rfl⟩ := List.mem_map.1 hy; exact at_ok _ _)
    rw [List.length_map, List.length_take] at this
    have : min s.toNat (stagesN ⟨c, h, x, ls⟩).length ≤ 60 := by omega
    have p := (at_ok ⟨c, h, x, ls⟩ ((stagesN ⟨c, h, x, ls⟩).getD s.toNat 0)).p
    exact ⟨⟨by omega, by omega⟩, ⟨p.1, by have := p.2; omega⟩⟩
  · exact ⟨⟨by decide, by decide⟩, ⟨by decide, by decide⟩⟩

set_option maxHeartbeats 2000000 in
set_option maxRecDepth 100000 in
theorem rline8 (c h x : Int) (A : Option Addr) (cA n : Nat) (ls : List Ly) (s : Int) (a b : Int) (hab : lineN ⟨c, h, x, ls⟩ s = (a, b)) (w : World) (hx : Rl w A ls) (ln : n = ls.length) (hn : n ≤ 60) :
    Calls Try.prog 43 #[.agg #[.int .i64 c, .int .i64 h, .int .i64 x, .slice A n cA], .int .i64 s] w fun e w' => e = .returned (.tuple #[.int .i64 a, .int .i64 b]) ∧ Below w.heap.size w w' := by
  have HAB := Lib.hid hab
  obtain ⟨er, her⟩ : ∃ er, er = errN ⟨c, h, x, ls⟩ := ⟨_, rfl⟩
  have HER := Lib.hid her
  obtain ⟨ra, hra⟩ : ∃ ra, ra = (rangeN ⟨c, h, x, ls⟩ s).1 := ⟨_, rfl⟩
  obtain ⟨rb, hrb⟩ : ∃ rb, rb = (rangeN ⟨c, h, x, ls⟩ s).2 := ⟨_, rfl⟩
  have HRA := Lib.hid hra; have HRB := Lib.hid hrb
  have bd := range_bd (c := c) (h := h) (x := x) (ls := ls) (by rw [← ln]; exact hn) s
  rw [← hra, ← hrb] at bd
  obtain ⟨⟨ra0, ra1⟩, ⟨rb0, rb1⟩⟩ := bd
  have RNG : Hid (∀ w', Rl w' A ls → n = ls.length → Calls Try.prog 41 #[.agg #[.int .i64 c, .int .i64 h, .int .i64 x, .slice A n cA], .int .i64 s] w' fun e w'' => e = .returned (.tuple #[.int .i64 ra, .int .i64 rb]) ∧ Below w'.heap.size w' w'') := fun w' z1 z2 =>
    rrange8 c h x A cA n ls s ra rb (by rw [hra, hrb]) w' z1 z2 hn
  clear hab her hra hrb
  have HX := Lib.hid hx; have LX := Lib.hid ln
  have hn1 : n ≤ 1000 := by omega
  clear hx ln
  go_enter Try.func43, Try.ntmps43
  go_wp2_with fail
  refine (rshapes_any c h x A cA n ls _ (HX.out.below ((Below.refl _ w).alloc (Nat.le_refl _) _)) LX.out hn1).mono ?_
  rintro e w1 ⟨A1, k1, n1, rfl, hn1', hR, hb, hd1, hd2⟩
  rw [← HER.out]
  have B1 := Lib.hid (chain ((Below.refl w.heap.size w).alloc (Nat.le_refl _) _) hb)
  have N1 := Lib.hid ((NB.new w c h x (.slice A n cA)).below hb)
  obtain ⟨c0, c1, c2, c3⟩ := N1.out.cells
  have R1 := Lib.hid hR; have L1 := Lib.hid hn1'
  clear hb hR hd1 hd2 hn1'
  by_cases h0 : ¬ er = 0
  · have b0 : (er == 0) = false := by simpa using h0
    obtain ⟨ea, eb⟩ : 2 * ra = a ∧ 2 * rb = b := by
      have := HAB.out
      rw [show lineN ⟨c, h, x, ls⟩ s = (2 * (rangeN ⟨c, h, x, ls⟩ s).1, 2 * (rangeN ⟨c, h, x, ls⟩ s).2) from if_neg (by rw [← HER.out]; exact fun z => h0 z.1)] at this
      injection this with z1 z2
      exact ⟨by rw [HRA.out]; exact z1, by rw [HRB.out]; exact z2⟩
    have v1 : IntKind.i64.wrap (2 * ra) = a := by rw [IntWalk.i64_in _ (by omega)]; exact ea
    have v2 : wrap64 (2 * ra) = a := by rw [IntWalk.wrap64_in _ (by omega)]; exact ea
    have v3 : IntKind.i64.wrap (2 * rb) = b := by rw [IntWalk.i64_in _ (by omega)]; exact eb
    have v4 : wrap64 (2 * rb) = b := by rw [IntWalk.wrap64_in _ (by omega)]; exact eb
    clear h0 ea eb
    go_wp2_with fail
    refine (RNG.out _ (HX.out.below B1.out) LX.out).mono ?_
    rintro e w2 ⟨rfl, hb⟩
    have B2 := Lib.hid (chain B1.out hb)
    clear hb
    go_wp2_with fail
    go_ret2
    exact ⟨rfl, B2.out⟩
  have h0 : er = 0 := by omega
  have b0 : (er == 0) = true := by rw [h0]; rfl
  have HE : Hid (errN ⟨c, h, x, ls⟩ = 0) := HER.out.symm.trans h0
  clear h0
  go_wp2_with fail
  refine (rstages8 c h x A cA n ls _ (HX.out.below B1.out) LX.out hn).mono ?_
  rintro e w2 ⟨A2, k2, n2, rfl, hn2, hR2, hb, hd1, hd2⟩
  have B2 := Lib.hid (chain B1.out hb)
  have N2 := Lib.hid (N1.out.below hb)
  have R2 := Lib.hid (R1.out.below hb)
  have L2 := Lib.hid hn2
  clear hb hR2 hn2 hd1 hd2 c0 c1 c2 c3
  obtain ⟨c0, c1, c2, c3⟩ := N2.out.cells
  by_cases hs : ¬ s = (n2 : Int)
  · have b1 : (s == (n2 : Int)) = false := by simpa using hs
    obtain ⟨ea, eb⟩ : 2 * ra = a ∧ 2 * rb = b := by
      have := HAB.out
      rw [show lineN ⟨c, h, x, ls⟩ s = (2 * (rangeN ⟨c, h, x, ls⟩ s).1, 2 * (rangeN ⟨c, h, x, ls⟩ s).2) from if_neg (by rw [← L2.out]; exact fun z => hs z.2)] at this
      injection this with z1 z2
      exact ⟨by rw [HRA.out]; exact z1, by rw [HRB.out]; exact z2⟩
    have v1 : IntKind.i64.wrap (2 * ra) = a := by rw [IntWalk.i64_in _ (by omega)]; exact ea
    have v2 : wrap64 (2 * ra) = a := by rw [IntWalk.wrap64_in _ (by omega)]; exact ea
    have v3 : IntKind.i64.wrap (2 * rb) = b := by rw [IntWalk.i64_in _ (by omega)]; exact eb
    have v4 : wrap64 (2 * rb) = b := by rw [IntWalk.wrap64_in _ (by omega)]; exact eb
    clear hs ea eb
    go_wp2_with fail
    refine (RNG.out _ (HX.out.below B2.out) LX.out).mono ?_
    rintro e w3 ⟨rfl, hb⟩
    have B3 := Lib.hid (chain B2.out hb)
    clear hb
    go_wp2_with fail
    go_ret2
    exact ⟨rfl, B3.out⟩
  have hs : s = (n2 : Int) := Decidable.not_not.1 hs
  have b1 : (s == (n2 : Int)) = true := by rw [hs]; simp
  obtain ⟨T, hT⟩ : ∃ T, T = endS ⟨c, h, x⟩ ls := ⟨_, rfl⟩
  obtain ⟨Y, hY⟩ : ∃ Y, Y = totP (knN ⟨c, h, x, ls⟩) := ⟨_, rfl⟩
  obtain ⟨ea, eb⟩ : 2 * Y = a ∧ T.n = b := by
    have := HAB.out
    rw [show lineN ⟨c, h, x, ls⟩ s = (2 * totP (knN ⟨c, h, x, ls⟩), (endS ⟨c, h, x⟩ ls).n) from if_pos ⟨HE.out, by rw [← L2.out]; exact hs⟩] at this
    injection this with z1 z2
    exact ⟨by rw [hY]; exact z1, by rw [hT]; exact z2⟩
  obtain ⟨y0, y1⟩ : 0 ≤ Y ∧ Y ≤ 512 := by
    obtain ⟨r, f3, t, _, p5, _⟩ := ok_all HE.out
    have r : (⟨c, h, x⟩ : Sh).r = true := r
    rw [hY, (tots HE.out).2]
    exact ⟨(sums_nn r f3 t).2, p5⟩
  have v1 : IntKind.i64.wrap (2 * Y) = a := by rw [IntWalk.i64_in _ (by omega)]; exact ea
  have v2 : wrap64 (2 * Y) = a := by rw [IntWalk.wrap64_in _ (by omega)]; exact ea
  have hR := R2.out
  have hl1 := L1.out
  rw [shN_ok HE.out] at hR hl1
  rw [sh_len, ← LX.out] at hl1
  obtain ⟨bS, oS, rfl, lS, qS⟩ := hR (by rw [sh_len]; omega)
  have gT : (shL ⟨c, h, x⟩ ls)[n]? = some T := by
    have := sh_get ls ⟨c, h, x⟩ n (by rw [← LX.out]; exact Nat.le_refl _)
    rw [LX.out, List.take_length, ← hT] at this
    rw [LX.out]; exact this
  obtain ⟨t0, t1, t2⟩ := sh_at qS gT
  have i1 : (n : Int) < (n1 : Int) := by omega
  have i2 : n < n1 := by omega
  have i3 : (0 : Int) ≤ (n : Int) := by omega
  have v3 : IntKind.i64.wrap ((n1 : Int) - 1) = (n : Int) := by rw [IntWalk.i64_in _ (by omega)]; omega
  have v4 : wrap64 ((n1 : Int) - 1) = (n : Int) := by rw [IntWalk.wrap64_in _ (by omega)]; omega
  have PS : Hid (∀ w, Calls Try.prog 52 #[.agg #[.int .i64 T.c, .int .i64 T.h, .int .i64 T.x]] w fun e w' => e = .returned (.int .i64 b) ∧ Below w.heap.size w w') := fun w => by rw [← eb]; exact rsize_any _ _ _ w
  have PT : Hid (∀ w', Rl w' A ls → n = ls.length → Calls Try.prog 49 #[.agg #[.int .i64 c, .int .i64 h, .int .i64 x, .slice A n cA]] w' fun e w'' => e = .returned (.int .i64 Y) ∧ Below w'.heap.size w' w'') := fun w' z1 z2 => by rw [hY]; exact rtotal8 c h x A cA n ls w' z1 z2 hn
  have HC0 : Hid (Below w2.heap.size w2 w2.drew) := below_drew w2
  have lN := N2.out.lt
  have tok1 : True := trivial
  clear hs hT hY ea eb hR hl1 qS gT y0 y1 ra0 ra1 rb0 rb1
  go_wp2_with fail
  go_region_held3 (fun w' => w'.cell? ⟨w.heap.size, 0, none⟩ = some (.int .i64 c) ∧ w'.cell? ⟨w.heap.size, 1, none⟩ = some (.int .i64 h) ∧ w'.cell? ⟨w.heap.size, 2, none⟩ = some (.int .i64 x) ∧ w'.cell? ⟨w.heap.size, 3, none⟩ = some (.slice A n cA) ∧ w'.cell? ⟨bS, oS + n * 3, none⟩ = some (.int .i64 T.c) ∧ w'.cell? ⟨bS, oS + n * 3 + 1, none⟩ = some (.int .i64 T.h) ∧ w'.cell? ⟨bS, oS + n * 3 + 2, none⟩ = some (.int .i64 T.x))
    (first | exact ⟨g0, g1, g2, g3, g4, g5, g6⟩ | go_keep)
    (first
      | ((have _t := tok1; clear tok1; go_at_call 49; (with_reducible refine (PT.out _ (HX.out.below (chain B2.out HC0.out)) LX.out).mono ?_); rintro e w3 ⟨rfl, hb3⟩
          have HC1 := Lib.hid (HC0.out.trans (hb3.mono HC0.out.size))
          have g0 := (HC1.out.cell (p := ⟨w.heap.size, 0, none⟩) lN).trans c0
          have g1 := (HC1.out.cell (p := ⟨w.heap.size, 1, none⟩) lN).trans c1
          have g2 := (HC1.out.cell (p := ⟨w.heap.size, 2, none⟩) lN).trans c2
          have g3 := (HC1.out.cell (p := ⟨w.heap.size, 3, none⟩) lN).trans c3
          have g4 := (HC1.out.cell (p := ⟨bS, oS + n * 3, none⟩) lS).trans t0
          have g5 := (HC1.out.cell (p := ⟨bS, oS + n * 3 + 1, none⟩) lS).trans t1
          have g6 := (HC1.out.cell (p := ⟨bS, oS + n * 3 + 2, none⟩) lS).trans t2
          have tok2 : True := trivial
          clear hb3))
      | ((have _t := tok2; clear tok2; go_at_call 52; (with_reducible refine (PS.out _).mono ?_); rintro e w4 ⟨rfl, hb4⟩
          have HC2 := Lib.hid (HC1.out.trans (hb4.mono HC1.out.size))
          clear g0 g1 g2 g3 g4 g5 g6
          have g0 := (HC2.out.cell (p := ⟨w.heap.size, 0, none⟩) lN).trans c0
          have g1 := (HC2.out.cell (p := ⟨w.heap.size, 1, none⟩) lN).trans c1
          have g2 := (HC2.out.cell (p := ⟨w.heap.size, 2, none⟩) lN).trans c2
          have g3 := (HC2.out.cell (p := ⟨w.heap.size, 3, none⟩) lN).trans c3
          have g4 := (HC2.out.cell (p := ⟨bS, oS + n * 3, none⟩) lS).trans t0
          have g5 := (HC2.out.cell (p := ⟨bS, oS + n * 3 + 1, none⟩) lS).trans t1
          have g6 := (HC2.out.cell (p := ⟨bS, oS + n * 3 + 2, none⟩) lS).trans t2
          clear hb4))
      | fail)
  go_wp2_with fail
  go_ret2
  exact ⟨rfl, chain B2.out HC2.out⟩

end Go.Proofs.Ytnfmpladdfgadaa
