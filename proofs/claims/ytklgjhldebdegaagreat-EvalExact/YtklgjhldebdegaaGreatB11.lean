/-
  What the laws of this seat stand on, part 11.
-/
import Derived.Test.YtklgjhldebdegaaGreatB10
import Derived.Deep.RegionHeld3
import Derived.Deep.QuietTactic
import Derived.BigQuiet
import Derived.StillTailTactics
import Derived.Deep.LoopGhost
import Derived.Laws.StructEq
namespace Go.Proofs.YtklgjhldebdegaaGreat
open Go.RowKit

set_option maxHeartbeats 1000000 in
theorem esize13 (S : Sh) (hr : S.r = true) (w : World) : Calls Tryz.prog 29 #[.agg #[.int .i64 S.c, .int .i64 S.h, .int .i64 S.x]] w fun e w' => e = .returned (.int .i64 S.n) ∧ Below w.heap.size w w' := by
  obtain ⟨r1, r2, r3, r4, r5, r6, r7⟩ := right_bd hr
  have hn := Sh.n_eq hr
  obtain ⟨s, hs⟩ : ∃ s, s = S.n := ⟨_, rfl⟩
  obtain ⟨m, hm⟩ : ∃ m, m = S.c * S.h := ⟨_, rfl⟩
  have b1 := mul_bd (show 0 ≤ S.c by omega) r2 (show 0 ≤ S.h by omega) r4
  have b2 := size_bd S
  rw [← hm] at b1
  rw [← hs] at b2
  rw [← hs, ← hm] at hn
  rw [← hs]
  have v1 : IntKind.i64.wrap (S.c * S.h) = m := by rw [← hm, IntWalk.i64_in _ (by omega)]
  have v2 : wrap64 (S.c * S.h) = m := by rw [← hm, IntWalk.wrap64_in _ (by omega)]
  have v3 : IntKind.i64.wrap (m * S.x) = s := by rw [← hn, IntWalk.i64_in _ (by omega)]
  have v4 : wrap64 (m * S.x) = s := by rw [← hn, IntWalk.wrap64_in _ (by omega)]
  clear hs hm hn b1 b2 r1 r2 r3 r4 r5 r6 r7 hr
  go_enter Tryz.func29, Tryz.ntmps29
  go_wp2_with fail
  go_ret
  exact ⟨rfl, chain_alloc (Below.refl _ w) _⟩

set_option maxHeartbeats 2000000 in
set_option maxRecDepth 100000 in
theorem pools13 (c h x : Int) (A X : Option Addr) (cA n cX nx : Nat) (ls : List Ly) (xs : List UInt64) (i : Nat) (w : World) (hx : Rl w A ls) (ln : n = ls.length) (hn : n ≤ 60) (hX : Rg ucells w X xs) (lx : nx = xs.length)
    (he : errN ⟨c, h, x, ls⟩ = 0) (hi : i ≤ ls.length) (hl : (xs.length : Int) = (endS ⟨c, h, x⟩ (ls.take i)).n) :
    Calls Tryz.prog 30 #[.agg #[.int .i64 c, .int .i64 h, .int .i64 x, .slice A n cA], .int .i64 (i : Int), .slice X nx cX] w (RowAny (nx ≤ cX ∧ cX ≤ maxLen) (poolsU ⟨c, h, x, ls⟩ i xs) w) := by
  obtain ⟨i0, hi0, hz0, hz1, hz2⟩ := info_parts Tryz.info27
  obtain ⟨tw, htw⟩ : ∃ tw : Nat, totW (knN ⟨c, h, x, ls⟩) = tw := ⟨(totW (knN ⟨c, h, x, ls⟩)).toNat, by
    have a := tot_bd (knN ⟨c, h, x, ls⟩) knN_all
    omega⟩
  have tb : tw ≤ 1000000 := by
    have a := tot_bd (knN ⟨c, h, x, ls⟩) knN_all
    have b := knN_len (N := ⟨c, h, x, ls⟩)
    have : 9216 * ((knN ⟨c, h, x, ls⟩).length : Int) ≤ 9216 * 8 := Int.mul_le_mul_of_nonneg_left (by omega) (by omega)
    omega
  have hmk : ∀ w : World, (Instr.makeSlice 28 (.int .i64 (tw : Int)) (.int .i64 (tw : Int))).run Tryz.prog w = .ok (.slice (some ⟨w.heap.size, 0, none⟩) tw tw) (w.alloc (.cells (madeCells #[.int .u64 0] tw) 27)) := fun w => by
    have := run_make (P := Tryz.prog) w 28 27 i0 _ Tryz.underlying28 hi0 hz0 .i64 .i64 tw tw (by omega) (Int.le_refl _) (by rw [hz2]; omega) (by omega)
    rw [hz1, Nat.mul_one] at this
    exact this
  have HX := Lib.hid hx; have LX := Lib.hid ln; have HXR := Lib.hid hX; have LXX := Lib.hid lx
  have HTW := Lib.hid htw; have HE := Lib.hid he; have HL := Lib.hid hl
  have hn1 : n ≤ 1000 := by omega
  have hin : i ≤ n := by omega
  clear hx ln hX lx htw he hl hi
  go_enter Tryz.func30, Tryz.ntmps30
  go_wp2_with fail
  refine (all_any c h x A cA n ls _ (HX.out.below ((Below.refl _ w).alloc (Nat.le_refl _) _)) LX.out hn1).mono ?_
  rintro e w1 ⟨rfl, hb⟩
  rw [HTW.out]
  have B1 := Lib.hid (chain ((Below.refl w.heap.size w).alloc (Nat.le_refl _) _) hb)
  have N1 := Lib.hid ((NB.new w c h x (.slice A n cA)).below hb)
  clear hb
  obtain ⟨c0, c1, c2, c3⟩ := N1.out.cells
  go_wp2_with fail
  obtain ⟨W, hW⟩ : ∃ W, W = w1.alloc (.cells (madeCells #[.int .u64 0] tw) 27) := ⟨_, rfl⟩
  have RW : Hid (Rg ucells W (some ⟨w1.heap.size, 0, none⟩) (noughts tw)) := by rw [hW]; exact made_rg w1 tw _
  have BW : Hid (Below w.heap.size w W) := by rw [hW]; exact chain_alloc B1.out _
  have NW : Hid (NB W w.heap.size c h x (.slice A n cA)) := by rw [hW]; exact N1.out.below ((Below.refl _ _).alloc (Nat.le_refl _) _)
  rw [← hW]
  clear hW c0 c1 c2 c3 hmk N1
  obtain ⟨wb, hwb⟩ : ∃ b, b = w1.heap.size := ⟨_, rfl⟩
  rw [← hwb] at RW ⊢
  clear hwb B1
  have YI : Hid (∃ A' k' n' ys, (Value.slice X nx cX) = .slice A' n' k' ∧ n' = ys.length ∧ Rg ucells W A' ys ∧ poolsU ⟨c, h, x, ls⟩ i ys = poolsU ⟨c, h, x, ls⟩ i xs ∧ (ys.length : Int) = (endS ⟨c, h, x⟩ (ls.take i)).n ∧ (nx ≤ cX ∧ cX ≤ maxLen → n' ≤ k' ∧ k' ≤ maxLen)) :=
    ⟨X, cX, nx, xs, rfl, LXX.out, HXR.out.below BW.out, rfl, HL.out, fun q => q⟩
  go_loopg [1, 2] (n - i) (fun g s1 s2 wx => ∃ k : Nat, i ≤ k ∧ k ≤ n ∧ Hid (g = n - k) ∧ s1 = .int .i64 (k : Int) ∧ Hid (∃ A' k' n' ys, s2 = .slice A' n' k' ∧ n' = ys.length ∧ Rg ucells wx A' ys ∧ poolsU ⟨c, h, x, ls⟩ k ys = poolsU ⟨c, h, x, ls⟩ i xs ∧ (ys.length : Int) = (endS ⟨c, h, x⟩ (ls.take k)).n ∧ (nx ≤ cX ∧ cX ≤ maxLen → n' ≤ k' ∧ k' ≤ maxLen)) ∧ Hid (Below W.heap.size W wx))
  case atStart => exact ⟨i, Nat.le_refl _, hin, by show _ = _; omega, rfl, YI, Below.refl _ _⟩
  case round =>
    obtain ⟨k, hik, hk, HG, rfl, YK, BK⟩ := hrel
    obtain ⟨A6, k6, n6, ys, rfl, h61, h62, h63, h64, h65⟩ := YK.out
    have Y1 := Lib.hid h61; have Y2 := Lib.hid h62; have Y3 := Lib.hid h63; have Y4 := Lib.hid h64; have Y5 := Lib.hid h65
    have BX := Lib.hid (chain BW.out BK.out)
    have NX := Lib.hid (NW.out.below BK.out)
    obtain ⟨c0, c1, c2, c3⟩ := NX.out.cells
    clear h61 h62 h63 h64 h65 YK
    by_cases kn : k < n
    · have ki : (k : Int) < (n : Int) := by omega
      have k0 : (0 : Int) ≤ (k : Int) := Int.natCast_nonneg _
      have d0 : decide ((k : Int) < (n : Int)) = true := decide_eq_true ki
      have kl : k < ls.length := by rw [← LX.out]; exact kn
      obtain ⟨b1, o1, rfl, l1, q⟩ := HX.out (by omega)
      obtain ⟨z0, z1, z2, z3⟩ := (q k kl).below BX.out l1
      obtain ⟨l, hl⟩ : ∃ l, l = ls.getD k Ly.z := ⟨_, rfl⟩
      rw [← hl] at z0 z1 z2 z3
      have HLY := Lib.hid hl
      have KL := Lib.hid kl
      clear q hl kl
      by_cases k3 : l.k = 3
      · have d1 : (l.k == 3) = true := by rw [k3]; rfl
        have K3 := Lib.hid k3
        clear k3
        obtain ⟨zs, hzs⟩ : ∃ zs, layN ⟨c, h, x, ls⟩ (k : Nat) ys (noughts tw) = zs := ⟨_, rfl⟩
        obtain ⟨p1, p2, p3⟩ := skip_step HE.out KL.out (by rw [← HLY.out]; exact K3.out) Y4.out (ws := noughts tw) (by rw [HTW.out]; simp [noughts])
        rw [hzs] at p2 p3
        have P1 := Lib.hid p1; have P2 := Lib.hid p2; have P3 := Lib.hid p3; have HZ := Lib.hid hzs
        clear p1 p2 p3 hzs
        go_wp2_with fail
        refine (layer_any c h x (some ⟨b1, o1, none⟩) A6 (some ⟨wb, 0, none⟩) cA n k6 n6 tw tw ls ys (noughts tw) zs (k : Int) true _ (HX.out.below BX.out) LX.out hn1 Y2.out Y1.out (RW.out.below BK.out) (by simp [noughts]) HZ.out P1.out).mono ?_
        rintro e w20 ⟨A7, k7, n7, rfl, h71, h72, hb, h74, h75⟩
        have Z1 := Lib.hid h71; have Z2 := Lib.hid h72; have Z4 := Lib.hid h74; have Z5 := Lib.hid h75
        have B7 := Lib.hid (chain BK.out hb)
        have YN : Hid (∃ A' k' n' ys, (Value.slice A7 n7 k7) = .slice A' n' k' ∧ n' = ys.length ∧ Rg ucells w20 A' ys ∧ poolsU ⟨c, h, x, ls⟩ (k + 1) ys = poolsU ⟨c, h, x, ls⟩ i xs ∧ (ys.length : Int) = (endS ⟨c, h, x⟩ (ls.take (k + 1))).n ∧ (nx ≤ cX ∧ cX ≤ maxLen → n' ≤ k' ∧ k' ≤ maxLen)) :=
          ⟨A7, k7, n7, zs, rfl, Z1.out, Z2.out, P2.out.symm.trans Y3.out, P3.out, fun _ => ⟨Z4.out, Z5.out⟩⟩
        clear h71 h72 h74 h75 hb c0 c1 c2 c3 z0 z1 z2 z3
        go_wp2_with fail
        go_roundg (n - (k + 1))
        case measure => have := HG.out; omega
        case rel => exact ⟨k + 1, by omega, by omega, rfl, by go_num, YN, B7⟩
      · have d1 : (l.k == 3) = false := by simpa using k3
        have EQ : Hid (poolsU ⟨c, h, x, ls⟩ k ys = ys) := pools_here (N := ⟨c, h, x, ls⟩) KL.out (by rw [← HLY.out]; exact k3) ys
        clear k3
        go_wp2_with fail
        go_ret
        exact ⟨A6, k6, n6, rfl, by rw [← Y3.out, EQ.out]; exact Y1.out, by rw [← Y3.out, EQ.out]; exact Y2.out, BX.out, Y5.out⟩
    · obtain rfl : k = n := by omega
      have d0 : decide ((k : Int) < (k : Int)) = false := decide_eq_false (Int.lt_irrefl _)
      have EQ : Hid (poolsU ⟨c, h, x, ls⟩ k ys = ys) := pools_end (N := ⟨c, h, x, ls⟩) (by show ls.length ≤ k; rw [LX.out]; exact Nat.le_refl _) ys
      go_wp2_with fail
      go_ret
      exact ⟨A6, k6, n6, rfl, by rw [← Y3.out, EQ.out]; exact Y1.out, by rw [← Y3.out, EQ.out]; exact Y2.out, BX.out, Y5.out⟩


set_option maxHeartbeats 2000000 in
set_option maxRecDepth 100000 in
theorem first13 (c h x : Int) (A X : Option Addr) (cA n cX nx : Nat) (ls : List Ly) (xs : List UInt64) (w : World) (hx : Rl w A ls) (ln : n = ls.length) (hn : n ≤ 60) (hX : Rg ucells w X xs) (lx : nx = xs.length) :
    Calls Tryz.prog 11 #[.agg #[.int .i64 c, .int .i64 h, .int .i64 x, .slice A n cA], .slice X nx cX] w (PairTo (firstU ⟨c, h, x, ls⟩ xs) (okFi ⟨c, h, x, ls⟩ xs) w) := by
  obtain ⟨er, her⟩ : ∃ er, er = errN ⟨c, h, x, ls⟩ := ⟨_, rfl⟩
  have HER := Lib.hid her
  have HX := Lib.hid hx; have LX := Lib.hid ln; have HXR := Lib.hid hX; have LXX := Lib.hid lx
  have NO : Hid (okFi ⟨c, h, x, ls⟩ xs = false → firstU ⟨c, h, x, ls⟩ xs = []) := fun e => if_neg (by rw [e]; decide)
  have hn1 : n ≤ 1000 := by omega
  clear hx ln hX lx her
  go_enter Tryz.func11, Tryz.ntmps11
  go_wp2_with fail
  refine (shapes_any c h x A cA n ls _ (HX.out.below ((Below.refl _ w).alloc (Nat.le_refl _) _)) LX.out hn1).mono ?_
  rintro e w1 ⟨A1, k1, n1, rfl, hn1', hR, hb, hd1, hd2⟩
  rw [← HER.out]
  have B1 := Lib.hid (chain ((Below.refl w.heap.size w).alloc (Nat.le_refl _) _) hb)
  have N1 := Lib.hid ((NB.new w c h x (.slice A n cA)).below hb)
  have R1 := Lib.hid hR; have L1 := Lib.hid hn1'
  clear hb hR hd1 hd2 hn1'
  by_cases h0 : ¬ er = 0
  · have b0 : (er != 0) = true := by simpa using h0
    have E0 : Hid (okFi ⟨c, h, x, ls⟩ xs = false) := decide_eq_false fun q => h0 (HER.out.trans q.1)
    have E1 := Lib.hid (NO.out E0.out)
    clear h0
    go_wp2_with fail
    go_ret2
    rw [E0.out, E1.out]
    exact ⟨none, 0, 0, rfl, rfl, Rg.nil _ _ _, B1.out, Nat.le_refl _, Nat.zero_le _⟩
  have h0 : er = 0 := by omega
  have b0 : (er != 0) = false := by rw [h0]; rfl
  have HE : Hid (errN ⟨c, h, x, ls⟩ = 0) := HER.out.symm.trans h0
  clear h0
  have hR := R1.out
  have hl1 := L1.out
  rw [shN_ok HE.out] at hR hl1
  rw [sh_len, ← LX.out] at hl1
  obtain ⟨bS, oS, rfl, hlS, hcS⟩ := hR (by rw [sh_len]; omega)
  have g2 := sh_get ls ⟨c, h, x⟩ 0 (by omega)
  obtain ⟨a4, a5, a6⟩ := sh_at hcS g2
  obtain ⟨r, f3, t, _⟩ := ok_all HE.out
  have ex : endS ⟨c, h, x⟩ (ls.take 0) = ⟨c, h, x⟩ := rfl
  rw [ex] at a4 a5 a6
  dsimp only at a4 a5 a6
  simp only [Nat.zero_mul, Nat.add_zero] at a4 a5 a6
  obtain ⟨kn, hkn⟩ : ∃ kn, kn = (⟨c, h, x⟩ : Sh).n := ⟨_, rfl⟩
  have HKN := Lib.hid hkn
  have PI : Hid (∀ w, Calls Tryz.prog 29 #[.agg #[.int .i64 c, .int .i64 h, .int .i64 x]] w fun e w' => e = .returned (.int .i64 kn) ∧ Below w.heap.size w w') := fun w => by rw [hkn]; exact esize13 ⟨c, h, x⟩ r w
  have m1 : (0 : Int) < (n1 : Int) := by omega
  have m2 : 0 < n1 := by omega
  clear hkn hR hl1 hcS g2 f3 t ex r
  go_wp2_with fail
  refine (PI.out _).mono ?_
  rintro e w4 ⟨rfl, hb4⟩
  have B4 := Lib.hid (chain B1.out hb4)
  have N4 := Lib.hid (N1.out.below hb4)
  clear hb4 a4 a5 a6 B1 N1 R1 L1
  by_cases hxn : ¬ (nx : Int) = kn
  · have b1 : ((nx : Int) != kn) = true := by simpa using hxn
    have E0 : Hid (okFi ⟨c, h, x, ls⟩ xs = false) := decide_eq_false fun q => hxn (by rw [LXX.out, HKN.out]; exact q.2)
    have E1 := Lib.hid (NO.out E0.out)
    clear hxn
    go_wp2_with fail
    go_ret2
    rw [E0.out, E1.out]
    exact ⟨none, 0, 0, rfl, rfl, Rg.nil _ _ _, B4.out, Nat.le_refl _, Nat.zero_le _⟩
  have hxn : (nx : Int) = kn := Decidable.not_not.1 hxn
  have b1 : ((nx : Int) != kn) = false := by rw [hxn]; simp
  have hl : (xs.length : Int) = (⟨c, h, x⟩ : Sh).n := by rw [← LXX.out, ← HKN.out]; exact hxn
  obtain ⟨f1, f2, f3, f4⟩ := first_row HE.out hl
  have F1 := Lib.hid f1; have F2 := Lib.hid f2; have HL := Lib.hid hl
  obtain ⟨us, hus⟩ : ∃ us, us = poolsU ⟨c, h, x, ls⟩ 0 xs := ⟨_, rfl⟩
  rw [← hus] at F2 f3 f4
  have nb := size_bd ⟨c, h, x⟩
  have nx1 : nx ≤ 128 := by rw [HKN.out] at hxn; omega
  have nx0 : 0 < nx := by
    obtain ⟨r, _⟩ := ok_all HE.out
    have := size_pos (s := ⟨c, h, x⟩) r
    rw [HKN.out] at hxn; omega
  have CC : Hid (∀ w', Rg ucells w' X xs → Calls Tryz.prog 31 #[.slice X nx cX] w' (RowTo ucells xs w')) := fun w' z1 => clone_any X cX nx xs w' z1 LXX.out nx0 (by omega)
  have CP : Hid (∀ w' Y cY, nx ≤ cY → cY ≤ maxLen → Rl w' A ls → Rg ucells w' Y xs → Calls Tryz.prog 30 #[.agg #[.int .i64 c, .int .i64 h, .int .i64 x, .slice A n cA], .int .i64 0, .slice Y nx cY] w' (RowAny (nx ≤ cY ∧ cY ≤ maxLen) us w')) := fun w' Y cY y1 y2 z1 z2 => by
    have := pools13 c h x A Y cA n cY nx ls xs 0 w' z1 LX.out hn z2 LXX.out HE.out (Nat.zero_le _) (by rw [HL.out]; rfl)
    rw [← hus] at this
    exact this
  obtain ⟨c0, c1, c2, c3⟩ := N4.out.cells
  have nl := N4.out.lt
  have ln0 := nl; have ln1 := nl; have ln2 := nl; have ln3 := nl
  clear hxn hl f1 f2 f3 f4 hus nx0 nx1 nb nl
  go_wp2_with fail
  refine wp_region_noPanic ?_
  refine wp_region_held_drew (S := fun w' => w'.cell? ⟨w.heap.size, 0, none⟩ = some (.int .i64 c) ∧ w'.cell? ⟨w.heap.size, 1, none⟩ = some (.int .i64 h) ∧ w'.cell? ⟨w.heap.size, 2, none⟩ = some (.int .i64 x) ∧ w'.cell? ⟨w.heap.size, 3, none⟩ = some (.slice A n cA)) (by kernel_rfl) ⟨c0, c1, c2, c3⟩ (fun hHeld => ?_)
  have hd := below_drew w4
  replace c0 := (hd.cell (p := ⟨w.heap.size, 0, none⟩) ln0).trans c0
  replace ln0 := Nat.lt_of_lt_of_le ln0 hd.size
  replace c1 := (hd.cell (p := ⟨w.heap.size, 1, none⟩) ln1).trans c1
  replace ln1 := Nat.lt_of_lt_of_le ln1 hd.size
  replace c2 := (hd.cell (p := ⟨w.heap.size, 2, none⟩) ln2).trans c2
  replace ln2 := Nat.lt_of_lt_of_le ln2 hd.size
  replace c3 := (hd.cell (p := ⟨w.heap.size, 3, none⟩) ln3).trans c3
  replace ln3 := Nat.lt_of_lt_of_le ln3 hd.size
  generalize w4.drew = wq1 at hHeld hd c0 ln0 c1 ln1 c2 ln2 c3 ln3 ⊢
  have BD : Hid (Below wq1.heap.size wq1 wq1) := Below.refl _ _
  refine wpAnyH_take (i := 0) (v := ?vv1001) (by simp only [List.getElem?_toArray, List.getElem?_cons_zero]; rfl) (by kernel_rfl) (by kernel_rfl) (by kernel_rfl) (fun _ _ _ h => h) (Or.inl ⟨by rfl, ?yy1001⟩) (by assumption) ?rr1001
  case yy1001 => (intro w hSw; (try dsimp only at hSw); go_simp; first | done | with_reducible rfl)
  simp only [Act.put, List.setIfInBounds_toArray, List.set_cons_zero, List.set_cons_succ]
  refine wpAnyH_take (i := 1) (v := ?vv1002) (by simp only [List.getElem?_toArray, List.getElem?_cons_zero, List.getElem?_cons_succ]; rfl) (by kernel_rfl) (by kernel_rfl) (by kernel_rfl) (fun _ _ _ h => h) (Or.inl ⟨by rfl, ?yy1002⟩) (by assumption) ?rr1002
  case yy1002 => (intro w hSw; (try dsimp only at hSw); go_simp; first | done | with_reducible rfl)
  simp only [Act.put, List.setIfInBounds_toArray, List.set_cons_zero, List.set_cons_succ]
  refine wpAnyH_ready (rs := [2]) (by kernel_rfl) (by simp) ?_
  refine AllReadyH.cons (by simp only [List.getElem?_toArray, List.getElem?_cons_zero, List.getElem?_cons_succ]; rfl) (fun K hK => ?_) ?_
  · skip
    go_simp
    go_at_call 31
    (with_reducible refine (CC.out _ (HXR.out.below (chain B4.out hd))).mono ?_)
    rintro e wq2 ⟨Y, kY, nY, rfl, l1, l2, hb, l3, l4⟩
    clear hHeld
    replace BD := Lib.hid (chain BD.out hb)
    obtain rfl : nx = nY := by rw [LXX.out]; exact l1.symm
    have RY := Lib.hid l2; have Y3 := Lib.hid l3; have Y4 := Lib.hid l4
    clear l1 l2 l3 l4
    clear hb
    go_wp2_with fail
    refine hK.out _ _ ⟨(BD.out.cell (p := ⟨w.heap.size, 0, none⟩) ln0).trans c0, (BD.out.cell (p := ⟨w.heap.size, 1, none⟩) ln1).trans c1, (BD.out.cell (p := ⟨w.heap.size, 2, none⟩) ln2).trans c2, (BD.out.cell (p := ⟨w.heap.size, 3, none⟩) ln3).trans c3⟩ (fun hHeld => ?_)
    clear hK K
    try simp only [Act.put, List.setIfInBounds_toArray, List.set_cons_zero, List.set_cons_succ]
    refine wpAnyH_ready (rs := [3]) (by kernel_rfl) (by simp) ?_
    refine AllReadyH.cons (by simp only [List.getElem?_toArray, List.getElem?_cons_zero, List.getElem?_cons_succ]; rfl) (fun K hK => ?_) ?_
    · skip
      go_simp
      go_at_call 30
      (with_reducible refine (CP.out _ _ _ Y3.out Y4.out (HX.out.below (chain B4.out (chain hd BD.out))) RY.out).mono ?_)
      rintro e wq3 ⟨A9, k9, n9, rfl, m9, r9, hb, p9⟩
      clear hHeld
      replace BD := Lib.hid (chain BD.out hb)
      have M9 := Lib.hid m9; have R9 := Lib.hid r9; have P9 := Lib.hid (p9 ⟨Y3.out, Y4.out⟩)
      clear m9 r9 p9
      clear hb
      go_wp2_with fail
      refine hK.out _ _ ⟨(BD.out.cell (p := ⟨w.heap.size, 0, none⟩) ln0).trans c0, (BD.out.cell (p := ⟨w.heap.size, 1, none⟩) ln1).trans c1, (BD.out.cell (p := ⟨w.heap.size, 2, none⟩) ln2).trans c2, (BD.out.cell (p := ⟨w.heap.size, 3, none⟩) ln3).trans c3⟩ (fun hHeld => ?_)
      clear hK K
      try simp only [Act.put, List.setIfInBounds_toArray, List.set_cons_zero, List.set_cons_succ]
      refine wpAnyH_take (i := 4) (v := ?vv1003) (by simp only [List.getElem?_toArray, List.getElem?_cons_zero, List.getElem?_cons_succ]; rfl) (by kernel_rfl) (by kernel_rfl) (by kernel_rfl) (fun _ _ _ h => h) (Or.inl ⟨by rfl, ?yy1003⟩) (by assumption) ?rr1003
      case yy1003 => (intro w hSw; (try dsimp only at hSw); go_simp; first | done | with_reducible rfl)
      simp only [Act.put, List.setIfInBounds_toArray, List.set_cons_zero, List.set_cons_succ]
      refine wpAnyH_take (i := 5) (v := ?vv1004) (by simp only [List.getElem?_toArray, List.getElem?_cons_zero, List.getElem?_cons_succ]; rfl) (by kernel_rfl) (by kernel_rfl) (by kernel_rfl) (fun _ _ _ h => h) (Or.inl ⟨by rfl, ?yy1004⟩) (by assumption) ?rr1004
      case yy1004 => (intro w hSw; (try dsimp only at hSw); go_simp; first | done | with_reducible rfl)
      simp only [Act.put, List.setIfInBounds_toArray, List.set_cons_zero, List.set_cons_succ]
      refine wpAnyH_done (by kernel_rfl) ?_ _
      refine NoPanic.normal ?_
      clear hHeld
      have BF := Lib.hid (chain B4.out (chain hd BD.out))
      clear hd BD c0 c1 c2 c3
      go_wp2_with fail
      go_ret2
      rw [F1.out, F2.out]
      exact ⟨A9, k9, n9, rfl, M9.out, R9.out, BF.out, P9.out.1, P9.out.2⟩
    exact AllReadyH.nil
  exact AllReadyH.nil

end Go.Proofs.YtklgjhldebdegaaGreat

namespace Go.Proofs.YtklgjhldebdegaaGreat
open Go.RowKit


/-- A stage of products, and the last stage, as values. -/
def lastV (m : Int) : Value := .iface 90 (.agg #[.int .i64 m])
def prodV (c h x : Int) (A : Option Addr) (n cA : Nat) (a : Int) (z : UInt64) (l f i o : Int) : Value := .iface 92 (.agg #[.int .i64 c, .int .i64 h, .int .i64 x, .slice A n cA, .int .i64 a, .int .u64 (uz z), .int .i64 l, .int .i64 f, .int .i64 i, .int .i64 o])
/-- What find hands out. -/
def TalkIs (c h x : Int) (ls : List Ly) (A : Option Addr) (n cA : Nat) (a : Int) (z : UInt64) (s : Int) (V : Value) : Prop :=
  (isSt ⟨c, h, x, ls⟩ s = false ∧ V = .nilIface) ∨
  (isSt ⟨c, h, x, ls⟩ s = true ∧ s = ((stagesN ⟨c, h, x, ls⟩).length : Int) ∧ V = lastV (inN ⟨c, h, x, ls⟩ s)) ∨
  (isSt ⟨c, h, x, ls⟩ s = true ∧ ∃ k : Nat, s = (k : Int) ∧ k < (stagesN ⟨c, h, x, ls⟩).length ∧ V = prodV c h x A n cA a z ((stgN ⟨c, h, x, ls⟩ k : Nat) : Int) ((fromN ⟨c, h, x, ls⟩ k : Nat) : Int) (inN ⟨c, h, x, ls⟩ (k : Int)) (atN ⟨c, h, x, ls⟩ ((stgN ⟨c, h, x, ls⟩ k : Nat) : Int)).u.n)
theorem talk_prod {c h x : Int} {ls : List Ly} (A : Option Addr) (n cA : Nat) (a : Int) (z : UInt64) {j m m1 f : Nat} {kn un : Int} (e : errN ⟨c, h, x, ls⟩ = 0) (hs : j < (stagesN ⟨c, h, x, ls⟩).length) (hm : m = stgN ⟨c, h, x, ls⟩ j) (hm1 : m1 = m + 1) (hf : f = fromN ⟨c, h, x, ls⟩ j)
    (hk : kn = (endS ⟨c, h, x⟩ (ls.take m)).n) (hu : un = (endS ⟨c, h, x⟩ (ls.take m1)).n) : TalkIs c h x ls A n cA a z (j : Int) (prodV c h x A n cA a z (m : Int) (f : Int) kn un) := by
  have is : isSt ⟨c, h, x, ls⟩ (j : Int) = true := isSt_yes ⟨e, by omega, by omega⟩
  have hg := get_ly (stg_at e hs).1
  have e1 : kn = inN ⟨c, h, x, ls⟩ (j : Int) := by rw [in_yes e (by omega), ← hm, hk]
  have e2 : un = (atN ⟨c, h, x, ls⟩ ((stgN ⟨c, h, x, ls⟩ j : Nat) : Int)).u.n := by
    rw [at_some e hg, hu, hm1, hm, run_end c h x ls hg]
  subst hf hm e1 e2
  exact Or.inr (Or.inr ⟨is, j, rfl, hs, rfl⟩)

set_option maxHeartbeats 4000000 in
set_option maxRecDepth 100000 in
theorem find13 (c h x : Int) (A : Option Addr) (cA n : Nat) (ls : List Ly) (a : Int) (z : UInt64) (s : Int) (w : World) (hx : Rl w A ls) (ln : n = ls.length) (hn : n ≤ 60) :
    Calls Tryz.prog 34 #[.agg #[.int .i64 c, .int .i64 h, .int .i64 x, .slice A n cA], .int .i64 a, .int .u64 (uz z), .int .i64 s] w fun e w' => ∃ V, e = .returned (.tuple #[V, .bool (isSt ⟨c, h, x, ls⟩ s)]) ∧ TalkIs c h x ls A n cA a z s V ∧ Below w.heap.size w w' := by
  obtain ⟨er, her⟩ : ∃ er, er = errN ⟨c, h, x, ls⟩ := ⟨_, rfl⟩
  have HER := Lib.hid her
  have HX := Lib.hid hx; have LX := Lib.hid ln
  have hn1 : n ≤ 1000 := by omega
  clear hx ln her
  go_enter Tryz.func34, Tryz.ntmps34
  go_wp2_with fail
  refine (shapes_any c h x A cA n ls _ (HX.out.below ((Below.refl _ w).alloc (Nat.le_refl _) _)) LX.out hn1).mono ?_
  rintro e w1 ⟨A1, k1, n1, rfl, hn1', hR, hb, hd1, hd2⟩
  rw [← HER.out]
  have B1 := Lib.hid (chain ((Below.refl w.heap.size w).alloc (Nat.le_refl _) _) hb)
  have N1 := Lib.hid ((NB.new w c h x (.slice A n cA)).below hb)
  obtain ⟨c0, c1, c2, c3⟩ := N1.out.cells
  have R1 := Lib.hid hR; have L1 := Lib.hid hn1'
  clear hb hR hd1 hd2 hn1'
  go_wp2_with fail
  refine (gstages8 c h x A cA n ls _ (HX.out.below B1.out) LX.out hn).mono ?_
  rintro e w2 ⟨A2, k2, n2, rfl, hn2, hR2, hb, hd1, hd2⟩
  have B2 := Lib.hid (chain B1.out hb)
  have N2 := Lib.hid (N1.out.below hb)
  have R2 := Lib.hid (R1.out.below hb)
  have RS := Lib.hid hR2
  have L2 := Lib.hid hn2
  clear hb hR2 hn2 hd1 hd2 c0 c1 c2 c3 N1 R1 B1
  by_cases h0 : ¬ er = 0
  · have b0 : (er != 0) = true := by simpa using h0
    have E : Hid (isSt ⟨c, h, x, ls⟩ s = false) := isSt_no fun q => h0 (HER.out.trans q.1)
    clear h0
    go_wp2_with fail
    go_ret2
    rw [E.out]
    exact ⟨_, rfl, Or.inl ⟨E.out, rfl⟩, B2.out⟩
  have h0 : er = 0 := by omega
  have b0 : (er != 0) = false := by rw [h0]; rfl
  have HE : Hid (errN ⟨c, h, x, ls⟩ = 0) := HER.out.symm.trans h0
  clear h0
  by_cases s0 : s < 0
  · have d0 : decide (s < 0) = true := decide_eq_true s0
    have E : Hid (isSt ⟨c, h, x, ls⟩ s = false) := isSt_no fun q => by omega
    clear s0
    go_wp2_with fail
    go_ret2
    rw [E.out]
    exact ⟨_, rfl, Or.inl ⟨E.out, rfl⟩, B2.out⟩
  have d0 : decide (s < 0) = false := decide_eq_false s0
  by_cases s1 : (n2 : Int) < s
  · have d1 : decide ((n2 : Int) < s) = true := decide_eq_true s1
    have E : Hid (isSt ⟨c, h, x, ls⟩ s = false) := isSt_no fun q => by have := L2.out; omega
    clear s1 s0
    go_wp2_with fail
    go_ret2
    rw [E.out]
    exact ⟨_, rfl, Or.inl ⟨E.out, rfl⟩, B2.out⟩
  have d1 : decide ((n2 : Int) < s) = false := decide_eq_false s1
  obtain ⟨j, rfl⟩ : ∃ j : Nat, s = j := ⟨s.toNat, by omega⟩
  have jn : j ≤ n2 := by omega
  have IS : Hid (isSt ⟨c, h, x, ls⟩ (j : Int) = true) := isSt_yes ⟨HE.out, by omega, by have := L2.out; omega⟩
  have hR := R2.out
  have hl1 := L1.out
  rw [shN_ok HE.out] at hR hl1
  rw [sh_len, ← LX.out] at hl1
  obtain ⟨bS, oS, rfl, hlS, hcS⟩ := hR (by rw [sh_len]; omega)
  have HCS := Lib.hid hcS
  obtain ⟨c0, c1, c2, c3⟩ := N2.out.cells
  clear s0 s1 hR hcS
  by_cases js : j = n2
  · subst js
    have b1 : ((j : Int) == (j : Int)) = true := by simp
    have d2 : decide (j < j) = false := by simp
    have g2 := sh_get ls ⟨c, h, x⟩ n (by rw [LX.out]; omega)
    obtain ⟨a4, a5, a6⟩ := sh_at HCS.out g2
    obtain ⟨K, hK⟩ : ∃ K, K = endS ⟨c, h, x⟩ (ls.take n) := ⟨_, rfl⟩
    rw [← hK] at a4 a5 a6
    have kr : K.r = true := by
      obtain ⟨r, f3, t, _⟩ := ok_all HE.out
      rw [hK]; exact end_right _ _ r (all_take f3 _) (fit_take t _)
    have E : Hid (inN ⟨c, h, x, ls⟩ (j : Int) = K.n) := by
      show _ = _
      have := in_last HE.out
      rw [← L2.out] at this
      rw [this, hK, List.take_of_length_le (by rw [LX.out]; exact Nat.le_refl _)]
    have PI : Hid (∀ w, Calls Tryz.prog 29 #[.agg #[.int .i64 K.c, .int .i64 K.h, .int .i64 K.x]] w fun e w' => e = .returned (.int .i64 K.n) ∧ Below w.heap.size w w') := fun w => esize13 K kr w
    have m0 : (0 : Int) ≤ (n : Int) := by omega
    have m1 : (n : Int) < (n1 : Int) := by omega
    have m2 : n < n1 := by omega
    clear hK g2 hl1 kr
    go_wp2_with fail
    refine (PI.out _).mono ?_
    rintro e w4 ⟨rfl, hb4⟩
    have B4 := Lib.hid (chain B2.out hb4)
    clear hb4
    go_wp2_with fail
    go_ret2
    rw [IS.out]
    exact ⟨_, rfl, Or.inr (Or.inl ⟨IS.out, by rw [L2.out], by rw [E.out]; rfl⟩), B4.out⟩
  have js2 : j < n2 := by omega
  have b1 : ((j : Int) == (n2 : Int)) = false := by simp; omega
  have ja : (0 : Int) ≤ (j : Int) := by omega
  have jb : (j : Int) < (n2 : Int) := by omega
  have hs : j < (stagesN ⟨c, h, x, ls⟩).length := by rw [← L2.out]; exact js2
  have HS := Lib.hid hs
  obtain ⟨q1, q2, q3, q4⟩ := stg_at HE.out hs
  obtain ⟨bT, oT, rfl, hlT, hcT⟩ := RS.out (by omega)
  have y0 := in_cell hcT q4
  obtain ⟨m, hm⟩ : ∃ m, m = stgN ⟨c, h, x, ls⟩ j := ⟨_, rfl⟩
  rw [← hm] at y0 q1 q4
  have mn : m < n := by rw [LX.out]; exact q1
  obtain ⟨f, hf⟩ : ∃ f, f = fromN ⟨c, h, x, ls⟩ j := ⟨_, rfl⟩
  obtain ⟨mm, hmm⟩ : ∃ mm, mm = manyN ⟨c, h, x, ls⟩ j := ⟨_, rfl⟩
  have RNG : Hid (rangeN ⟨c, h, x, ls⟩ (j : Int) = ((f : Int), (mm : Int))) := by
    show _ = _
    have r := range_yes hs
    have q1 : 0 ≤ totP (((stagesN ⟨c, h, x, ls⟩).take j).map (atN ⟨c, h, x, ls⟩)) := (tot_bd _ (fun y hy => by obtain ⟨i, _, rfl⟩ := List.mem_map.1 hy; exact at_ok _ _)).2.2.1
    have q2 : 0 ≤ (atN ⟨c, h, x, ls⟩ ((stagesN ⟨c, h, x, ls⟩).getD j 0)).p := (KnOk.p (at_ok _ _)).1
    have e1 : (f : Int) = (rangeN ⟨c, h, x, ls⟩ (j : Int)).1 := by rw [hf]; unfold fromN; rw [r]; show ((totP _).toNat : Int) = totP _; omega
    have e2 : (mm : Int) = (rangeN ⟨c, h, x, ls⟩ (j : Int)).2 := by rw [hmm]; unfold manyN; rw [r]; show ((Kn.p _).toNat : Int) = Kn.p _; omega
    rw [e1, e2]
  have g2 := sh_get ls ⟨c, h, x⟩ m (by omega)
  have g3 := sh_get ls ⟨c, h, x⟩ (m + 1) (by omega)
  obtain ⟨m1, hm1⟩ : ∃ m1, m1 = m + 1 := ⟨_, rfl⟩
  rw [← hm1] at g3
  obtain ⟨a4, a5, a6⟩ := sh_at HCS.out g2
  obtain ⟨a7, a8, a9⟩ := sh_at HCS.out g3
  obtain ⟨K, hK⟩ : ∃ K, K = endS ⟨c, h, x⟩ (ls.take m) := ⟨_, rfl⟩
  obtain ⟨U, hU⟩ : ∃ U, U = endS ⟨c, h, x⟩ (ls.take m1) := ⟨_, rfl⟩
  rw [← hK] at a4 a5 a6
  rw [← hU] at a7 a8 a9
  obtain ⟨r, f3, t, _⟩ := ok_all HE.out
  have kr : K.r = true := by rw [hK]; exact end_right _ _ r (all_take f3 _) (fit_take t _)
  have ur : U.r = true := by rw [hU]; exact end_right _ _ r (all_take f3 _) (fit_take t _)
  obtain ⟨kn, hkn⟩ : ∃ kn, kn = K.n := ⟨_, rfl⟩
  obtain ⟨un, hun⟩ : ∃ un, un = U.n := ⟨_, rfl⟩
  have CK : Hid (∀ w, Calls Tryz.prog 29 #[.agg #[.int .i64 K.c, .int .i64 K.h, .int .i64 K.x]] w fun e w' => e = .returned (.int .i64 kn) ∧ Below w.heap.size w w') := fun w => by rw [hkn]; exact esize13 K kr w
  have CU : Hid (∀ w, Calls Tryz.prog 29 #[.agg #[.int .i64 U.c, .int .i64 U.h, .int .i64 U.x]] w fun e w' => e = .returned (.int .i64 un) ∧ Below w.heap.size w w') := fun w => by rw [hun]; exact esize13 U ur w
  have EV : Hid (TalkIs c h x ls A n cA a z (j : Int) (prodV c h x A n cA a z (m : Int) (f : Int) kn un)) := talk_prod A n cA a z HE.out HS.out hm hm1 hf (hkn.trans (congrArg Sh.n hK)) (hun.trans (congrArg Sh.n hU))
  have k0 : (0 : Int) ≤ (m : Int) := by omega
  have k1' : (m : Int) < (n1 : Int) := by omega
  have k2' : m < n1 := by omega
  have k3 : (0 : Int) ≤ (m1 : Int) := by omega
  have k4 : (m1 : Int) < (n1 : Int) := by omega
  have k5 : m1 < n1 := by omega
  have v1 : IntKind.i64.wrap ((m : Int) + 1) = (m1 : Int) := next_i64 hm1 (Nat.lt_succ_self m) (by omega)
  have v2 : wrap64 ((m : Int) + 1) = (m1 : Int) := next_wrap hm1 (Nat.lt_succ_self m) (by omega)
  have V1 := Lib.hid v1; have V2 := Lib.hid v2
  clear hK hU hkn hun kr ur g2 g3 hl1 hm hf hmm hm1 q1 q2 q3 q4 hs hcT js jn r f3 t v1 v2
  go_wp2_with fail
  refine (grange8 c h x A cA n ls (j : Int) (f : Int) (mm : Int) RNG.out _ (HX.out.below B2.out) LX.out hn).mono ?_
  rintro e w4 ⟨rfl, hb4⟩
  have B4 := Lib.hid (chain B2.out hb4)
  have N4 := Lib.hid (N2.out.below hb4)
  replace a4 := (hb4.cell (p := ⟨bS, oS + m * 3, none⟩) hlS).trans a4
  replace a5 := (hb4.cell (p := ⟨bS, oS + m * 3 + 1, none⟩) hlS).trans a5
  replace a6 := (hb4.cell (p := ⟨bS, oS + m * 3 + 2, none⟩) hlS).trans a6
  replace a7 := (hb4.cell (p := ⟨bS, oS + m1 * 3, none⟩) hlS).trans a7
  replace a8 := (hb4.cell (p := ⟨bS, oS + m1 * 3 + 1, none⟩) hlS).trans a8
  replace a9 := (hb4.cell (p := ⟨bS, oS + m1 * 3 + 2, none⟩) hlS).trans a9
  have lS := Nat.lt_of_lt_of_le hlS hb4.size
  clear hb4 c0 c1 c2 c3 N2 y0
  obtain ⟨c0, c1, c2, c3⟩ := N4.out.cells
  have nl := N4.out.lt
  have ln0 := nl; have ln1 := nl; have ln2 := nl; have ln3 := nl
  have l4 := lS; have l5 := lS; have l6 := lS; have l7 := lS; have l8 := lS; have l9 := lS
  have v1 := V1.out; have v2 := V2.out
  clear nl lS
  go_wp2_with fail
  refine wp_region_noPanic ?_
  refine wp_region_held_drew (S := fun w' => w'.cell? ⟨w.heap.size, 0, none⟩ = some (.int .i64 c) ∧ w'.cell? ⟨w.heap.size, 1, none⟩ = some (.int .i64 h) ∧ w'.cell? ⟨w.heap.size, 2, none⟩ = some (.int .i64 x) ∧ w'.cell? ⟨w.heap.size, 3, none⟩ = some (.slice A n cA) ∧ w'.cell? ⟨bS, oS + m * 3, none⟩ = some (.int .i64 K.c) ∧ w'.cell? ⟨bS, oS + m * 3 + 1, none⟩ = some (.int .i64 K.h) ∧ w'.cell? ⟨bS, oS + m * 3 + 2, none⟩ = some (.int .i64 K.x) ∧ w'.cell? ⟨bS, oS + m1 * 3, none⟩ = some (.int .i64 U.c) ∧ w'.cell? ⟨bS, oS + m1 * 3 + 1, none⟩ = some (.int .i64 U.h) ∧ w'.cell? ⟨bS, oS + m1 * 3 + 2, none⟩ = some (.int .i64 U.x)) (by kernel_rfl) ⟨c0, c1, c2, c3, a4, a5, a6, a7, a8, a9⟩ (fun hHeld => ?_)
  have hd := below_drew w4
  replace c0 := (hd.cell (p := ⟨w.heap.size, 0, none⟩) ln0).trans c0
  replace ln0 := Nat.lt_of_lt_of_le ln0 hd.size
  replace c1 := (hd.cell (p := ⟨w.heap.size, 1, none⟩) ln1).trans c1
  replace ln1 := Nat.lt_of_lt_of_le ln1 hd.size
  replace c2 := (hd.cell (p := ⟨w.heap.size, 2, none⟩) ln2).trans c2
  replace ln2 := Nat.lt_of_lt_of_le ln2 hd.size
  replace c3 := (hd.cell (p := ⟨w.heap.size, 3, none⟩) ln3).trans c3
  replace ln3 := Nat.lt_of_lt_of_le ln3 hd.size
  replace a4 := (hd.cell (p := ⟨bS, oS + m * 3, none⟩) l4).trans a4
  replace l4 := Nat.lt_of_lt_of_le l4 hd.size
  replace a5 := (hd.cell (p := ⟨bS, oS + m * 3 + 1, none⟩) l5).trans a5
  replace l5 := Nat.lt_of_lt_of_le l5 hd.size
  replace a6 := (hd.cell (p := ⟨bS, oS + m * 3 + 2, none⟩) l6).trans a6
  replace l6 := Nat.lt_of_lt_of_le l6 hd.size
  replace a7 := (hd.cell (p := ⟨bS, oS + m1 * 3, none⟩) l7).trans a7
  replace l7 := Nat.lt_of_lt_of_le l7 hd.size
  replace a8 := (hd.cell (p := ⟨bS, oS + m1 * 3 + 1, none⟩) l8).trans a8
  replace l8 := Nat.lt_of_lt_of_le l8 hd.size
  replace a9 := (hd.cell (p := ⟨bS, oS + m1 * 3 + 2, none⟩) l9).trans a9
  replace l9 := Nat.lt_of_lt_of_le l9 hd.size
  generalize w4.drew = wq1 at hHeld hd c0 ln0 c1 ln1 c2 ln2 c3 ln3 a4 l4 a5 l5 a6 l6 a7 l7 a8 l8 a9 l9 ⊢
  have BD : Hid (Below wq1.heap.size wq1 wq1) := Below.refl _ _
  refine wpAnyH_take (i := 0) (v := ?vv2001) (by simp only [List.getElem?_toArray, List.getElem?_cons_zero]; rfl) (by kernel_rfl) (by kernel_rfl) (by kernel_rfl) (fun _ _ _ h => h) (Or.inl ⟨by rfl, ?yy2001⟩) (by assumption) ?rr2001
  case yy2001 => (intro w hSw; (try dsimp only at hSw); go_simp; first | done | with_reducible rfl)
  simp only [Act.put, List.setIfInBounds_toArray, List.set_cons_zero, List.set_cons_succ]
  refine wpAnyH_take (i := 1) (v := ?vv2002) (by simp only [List.getElem?_toArray, List.getElem?_cons_zero, List.getElem?_cons_succ]; rfl) (by kernel_rfl) (by kernel_rfl) (by kernel_rfl) (fun _ _ _ h => h) (Or.inl ⟨by rfl, ?yy2002⟩) (by assumption) ?rr2002
  case yy2002 => (intro w hSw; (try dsimp only at hSw); go_simp; first | done | with_reducible rfl)
  simp only [Act.put, List.setIfInBounds_toArray, List.set_cons_zero, List.set_cons_succ]
  refine wpAnyH_take (i := 2) (v := ?vv2003) (by simp only [List.getElem?_toArray, List.getElem?_cons_zero, List.getElem?_cons_succ]; rfl) (by kernel_rfl) (by kernel_rfl) (by kernel_rfl) (fun _ _ _ h => h) (Or.inl ⟨by rfl, ?yy2003⟩) (by assumption) ?rr2003
  case yy2003 => (intro w hSw; (try dsimp only at hSw); go_simp; first | done | with_reducible rfl)
  simp only [Act.put, List.setIfInBounds_toArray, List.set_cons_zero, List.set_cons_succ]
  refine wpAnyH_take (i := 3) (v := ?vv2004) (by simp only [List.getElem?_toArray, List.getElem?_cons_zero, List.getElem?_cons_succ]; rfl) (by kernel_rfl) (by kernel_rfl) (by kernel_rfl) (fun _ _ _ h => h) (Or.inl ⟨by rfl, ?yy2004⟩) (by assumption) ?rr2004
  case yy2004 => (intro w hSw; (try dsimp only at hSw); go_simp; first | done | with_reducible rfl)
  simp only [Act.put, List.setIfInBounds_toArray, List.set_cons_zero, List.set_cons_succ]
  refine wpAnyH_take (i := 4) (v := ?vv2005) (by simp only [List.getElem?_toArray, List.getElem?_cons_zero, List.getElem?_cons_succ]; rfl) (by kernel_rfl) (by kernel_rfl) (by kernel_rfl) (fun _ _ _ h => h) (Or.inl ⟨by rfl, ?yy2005⟩) (by assumption) ?rr2005
  case yy2005 => (intro w hSw; (try dsimp only at hSw); go_simp; first | done | with_reducible rfl)
  simp only [Act.put, List.setIfInBounds_toArray, List.set_cons_zero, List.set_cons_succ]
  refine wpAnyH_take (i := 5) (v := ?vv2006) (by simp only [List.getElem?_toArray, List.getElem?_cons_zero, List.getElem?_cons_succ]; rfl) (by kernel_rfl) (by kernel_rfl) (by kernel_rfl) (fun _ _ _ h => h) (Or.inl ⟨by rfl, ?yy2006⟩) (by assumption) ?rr2006
  case yy2006 => (intro w hSw; (try dsimp only at hSw); go_simp; first | done | with_reducible rfl)
  simp only [Act.put, List.setIfInBounds_toArray, List.set_cons_zero, List.set_cons_succ]
  refine wpAnyH_take (i := 6) (v := ?vv2007) (by simp only [List.getElem?_toArray, List.getElem?_cons_zero, List.getElem?_cons_succ]; rfl) (by kernel_rfl) (by kernel_rfl) (by kernel_rfl) (fun _ _ _ h => h) (Or.inl ⟨by rfl, ?yy2007⟩) (by assumption) ?rr2007
  case yy2007 => (intro w hSw; (try dsimp only at hSw); go_simp; first | done | with_reducible rfl)
  simp only [Act.put, List.setIfInBounds_toArray, List.set_cons_zero, List.set_cons_succ]
  refine wpAnyH_take (i := 7) (v := ?vv2008) (by simp only [List.getElem?_toArray, List.getElem?_cons_zero, List.getElem?_cons_succ]; rfl) (by kernel_rfl) (by kernel_rfl) (by kernel_rfl) (fun _ _ _ h => h) (Or.inl ⟨by rfl, ?yy2008⟩) (by assumption) ?rr2008
  case yy2008 => (intro w hSw; (try dsimp only at hSw); go_simp; first | done | with_reducible rfl)
  simp only [Act.put, List.setIfInBounds_toArray, List.set_cons_zero, List.set_cons_succ]
  refine wpAnyH_take (i := 8) (v := ?vv2009) (by simp only [List.getElem?_toArray, List.getElem?_cons_zero, List.getElem?_cons_succ]; rfl) (by kernel_rfl) (by kernel_rfl) (by kernel_rfl) (fun _ _ _ h => h) (Or.inl ⟨by rfl, ?yy2009⟩) (by assumption) ?rr2009
  case yy2009 => (intro w hSw; (try dsimp only at hSw); go_simp; first | done | with_reducible rfl)
  simp only [Act.put, List.setIfInBounds_toArray, List.set_cons_zero, List.set_cons_succ]
  refine wpAnyH_take (i := 10) (v := ?vv2010) (by simp only [List.getElem?_toArray, List.getElem?_cons_zero, List.getElem?_cons_succ]; rfl) (by kernel_rfl) (by kernel_rfl) (by kernel_rfl) (fun _ _ _ h => h) (Or.inl ⟨by rfl, ?yy2010⟩) (by assumption) ?rr2010
  case yy2010 => (intro w hSw; (try dsimp only at hSw); go_simp; first | done | with_reducible rfl)
  simp only [Act.put, List.setIfInBounds_toArray, List.set_cons_zero, List.set_cons_succ]
  refine wpAnyH_take (i := 11) (v := ?vv2011) (by simp only [List.getElem?_toArray, List.getElem?_cons_zero, List.getElem?_cons_succ]; rfl) (by kernel_rfl) (by kernel_rfl) (by kernel_rfl) (fun _ _ _ h => h) (Or.inl ⟨by rfl, ?yy2011⟩) (by assumption) ?rr2011
  case yy2011 => (intro w hSw; (try dsimp only at hSw); go_simp; first | done | with_reducible rfl)
  simp only [Act.put, List.setIfInBounds_toArray, List.set_cons_zero, List.set_cons_succ]
  refine wpAnyH_take (i := 12) (v := ?vv2012) (by simp only [List.getElem?_toArray, List.getElem?_cons_zero, List.getElem?_cons_succ]; rfl) (by kernel_rfl) (by kernel_rfl) (by kernel_rfl) (fun _ _ _ h => h) (Or.inl ⟨by rfl, ?yy2012⟩) (by assumption) ?rr2012
  case yy2012 => (intro w hSw; (try dsimp only at hSw); go_simp; first | done | with_reducible rfl)
  simp only [Act.put, List.setIfInBounds_toArray, List.set_cons_zero, List.set_cons_succ]
  refine wpAnyH_take (i := 13) (v := ?vv2013) (by simp only [List.getElem?_toArray, List.getElem?_cons_zero, List.getElem?_cons_succ]; rfl) (by kernel_rfl) (by kernel_rfl) (by kernel_rfl) (fun _ _ _ h => h) (Or.inl ⟨by rfl, ?yy2013⟩) (by assumption) ?rr2013
  case yy2013 => (intro w hSw; (try dsimp only at hSw); go_simp; first | done | with_reducible rfl)
  simp only [Act.put, List.setIfInBounds_toArray, List.set_cons_zero, List.set_cons_succ]
  refine wpAnyH_take (i := 14) (v := ?vv2014) (by simp only [List.getElem?_toArray, List.getElem?_cons_zero, List.getElem?_cons_succ]; rfl) (by kernel_rfl) (by kernel_rfl) (by kernel_rfl) (fun _ _ _ h => h) (Or.inl ⟨by rfl, ?yy2014⟩) (by assumption) ?rr2014
  case yy2014 => (intro w hSw; (try dsimp only at hSw); go_simp; first | done | with_reducible rfl)
  simp only [Act.put, List.setIfInBounds_toArray, List.set_cons_zero, List.set_cons_succ]
  refine wpAnyH_ready (rs := [9]) (by kernel_rfl) (by simp) ?_
  refine AllReadyH.cons (by simp only [List.getElem?_toArray, List.getElem?_cons_zero, List.getElem?_cons_succ]; rfl) (fun K hK => ?_) ?_
  · skip
    go_simp
    go_at_call 29
    (with_reducible refine (CK.out _).mono ?_)
    rintro e wq2 ⟨rfl, hb⟩
    clear hHeld
    replace BD := Lib.hid (chain BD.out hb)
    clear hb
    go_wp2_with fail
    refine hK.out _ _ ⟨(BD.out.cell (p := ⟨w.heap.size, 0, none⟩) ln0).trans c0, (BD.out.cell (p := ⟨w.heap.size, 1, none⟩) ln1).trans c1, (BD.out.cell (p := ⟨w.heap.size, 2, none⟩) ln2).trans c2, (BD.out.cell (p := ⟨w.heap.size, 3, none⟩) ln3).trans c3, (BD.out.cell (p := ⟨bS, oS + m * 3, none⟩) l4).trans a4, (BD.out.cell (p := ⟨bS, oS + m * 3 + 1, none⟩) l5).trans a5, (BD.out.cell (p := ⟨bS, oS + m * 3 + 2, none⟩) l6).trans a6, (BD.out.cell (p := ⟨bS, oS + m1 * 3, none⟩) l7).trans a7, (BD.out.cell (p := ⟨bS, oS + m1 * 3 + 1, none⟩) l8).trans a8, (BD.out.cell (p := ⟨bS, oS + m1 * 3 + 2, none⟩) l9).trans a9⟩ (fun hHeld => ?_)
    clear hK K
    try simp only [Act.put, List.setIfInBounds_toArray, List.set_cons_zero, List.set_cons_succ]
    refine wpAnyH_ready (rs := [15]) (by kernel_rfl) (by simp) ?_
    refine AllReadyH.cons (by simp only [List.getElem?_toArray, List.getElem?_cons_zero, List.getElem?_cons_succ]; rfl) (fun K hK => ?_) ?_
    · skip
      go_simp
      go_at_call 29
      (with_reducible refine (CU.out _).mono ?_)
      rintro e wq3 ⟨rfl, hb⟩
      clear hHeld
      replace BD := Lib.hid (chain BD.out hb)
      clear hb
      go_wp2_with fail
      refine hK.out _ _ ⟨(BD.out.cell (p := ⟨w.heap.size, 0, none⟩) ln0).trans c0, (BD.out.cell (p := ⟨w.heap.size, 1, none⟩) ln1).trans c1, (BD.out.cell (p := ⟨w.heap.size, 2, none⟩) ln2).trans c2, (BD.out.cell (p := ⟨w.heap.size, 3, none⟩) ln3).trans c3, (BD.out.cell (p := ⟨bS, oS + m * 3, none⟩) l4).trans a4, (BD.out.cell (p := ⟨bS, oS + m * 3 + 1, none⟩) l5).trans a5, (BD.out.cell (p := ⟨bS, oS + m * 3 + 2, none⟩) l6).trans a6, (BD.out.cell (p := ⟨bS, oS + m1 * 3, none⟩) l7).trans a7, (BD.out.cell (p := ⟨bS, oS + m1 * 3 + 1, none⟩) l8).trans a8, (BD.out.cell (p := ⟨bS, oS + m1 * 3 + 2, none⟩) l9).trans a9⟩ (fun hHeld => ?_)
      clear hK K
      try simp only [Act.put, List.setIfInBounds_toArray, List.set_cons_zero, List.set_cons_succ]
      refine wpAnyH_take (i := 16) (v := ?vv2015) (by simp only [List.getElem?_toArray, List.getElem?_cons_zero, List.getElem?_cons_succ]; rfl) (by kernel_rfl) (by kernel_rfl) (by kernel_rfl) (fun _ _ _ h => h) (Or.inl ⟨by rfl, ?yy2015⟩) (by assumption) ?rr2015
      case yy2015 => (intro w hSw; (try dsimp only at hSw); go_simp; first | done | with_reducible rfl)
      simp only [Act.put, List.setIfInBounds_toArray, List.set_cons_zero, List.set_cons_succ]
      refine wpAnyH_take (i := 17) (v := ?vv2016) (by simp only [List.getElem?_toArray, List.getElem?_cons_zero, List.getElem?_cons_succ]; rfl) (by kernel_rfl) (by kernel_rfl) (by kernel_rfl) (fun _ _ _ h => h) (Or.inl ⟨by rfl, ?yy2016⟩) (by assumption) ?rr2016
      case yy2016 => (intro w hSw; (try dsimp only at hSw); go_simp; first | done | with_reducible rfl)
      simp only [Act.put, List.setIfInBounds_toArray, List.set_cons_zero, List.set_cons_succ]
      refine wpAnyH_take (i := 18) (v := ?vv2017) (by simp only [List.getElem?_toArray, List.getElem?_cons_zero, List.getElem?_cons_succ]; rfl) (by kernel_rfl) (by kernel_rfl) (by kernel_rfl) (fun _ _ _ h => h) (Or.inl ⟨by rfl, ?yy2017⟩) (by assumption) ?rr2017
      case yy2017 => (intro w hSw; (try dsimp only at hSw); go_simp; first | done | with_reducible rfl)
      simp only [Act.put, List.setIfInBounds_toArray, List.set_cons_zero, List.set_cons_succ]
      refine wpAnyH_take (i := 19) (v := ?vv2018) (by simp only [List.getElem?_toArray, List.getElem?_cons_zero, List.getElem?_cons_succ]; rfl) (by kernel_rfl) (by kernel_rfl) (by kernel_rfl) (fun _ _ _ h => h) (Or.inl ⟨by rfl, ?yy2018⟩) (by assumption) ?rr2018
      case yy2018 => (intro w hSw; (try dsimp only at hSw); go_simp; first | done | with_reducible rfl)
      simp only [Act.put, List.setIfInBounds_toArray, List.set_cons_zero, List.set_cons_succ]
      refine wpAnyH_done (by kernel_rfl) ?_ _
      refine NoPanic.normal ?_
      clear hHeld
      have BF := Lib.hid (chain B4.out (chain hd BD.out))
      clear hd BD c0 c1 c2 c3 a4 a5 a6 a7 a8 a9 v1 v2
      go_wp2_with fail
      go_ret2
      rw [IS.out]
      exact ⟨_, rfl, EV.out, BF.out⟩
    exact AllReadyH.nil
  exact AllReadyH.nil

end Go.Proofs.YtklgjhldebdegaaGreat

namespace Go.Proofs.YtklgjhldebdegaaGreat
open Go.RowKit

theorem su_cell {w : World} {b off : Nat} {us : List UInt64} (h : ∀ j u, (us.flatMap ucells)[j]? = some u → w.cell? ⟨b, off + j, none⟩ = some u) {k : Nat} {x : UInt64} (hx : us[k]? = some x) :
    w.cell? ⟨b, off + k, none⟩ = some (.int .u64 (uz x)) := by
  have := Rg.at ucells_len h hx 0 _ rfl
  rwa [Nat.mul_one] at this
set_option maxHeartbeats 400000 in
theorem ssame_core (A B : Option Addr) (cA cB n : Nat) (us : List UInt64) (w : World) (hx : Rg ucells w A us) (hy : Rg ucells w B us) (lx : n = us.length) (hn : n ≤ 1000000) :
    Calls Tryz.prog 17 #[.slice A n cA, .slice B n cB] w fun e w' => e = .returned (.bool true) ∧ Below w.heap.size w w' := by
  have HX := Lib.hid hx; clear hx
  have HY := Lib.hid hy; clear hy
  have LX := Lib.hid lx; clear lx
  have hne : ((n : Int) != (n : Int)) = false := by simp
  go_enter Tryz.func17, Tryz.ntmps17
  go_wp2_with fail
  go_loopw [5] (fun i wr => ∃ k : Nat, k ≤ n ∧ i = .int .i64 k ∧ Hid (Below w.heap.size w wr)) (fun i _ => n - (intOf i).toNat)
  case atStart => exact ⟨0, Nat.zero_le _, rfl, Below.refl _ _⟩
  case round =>
    obtain ⟨k, hk, rfl, HB⟩ := hrel
    by_cases hlt : k < n
    · obtain ⟨b1, o1, rfl, l1, c1⟩ := HX.out (by rw [← LX.out]; omega)
      obtain ⟨b2, o2, rfl, l2, c2⟩ := HY.out (by rw [← LX.out]; omega)
      obtain ⟨x, hxe⟩ : ∃ x, us[k]? = some x := ⟨_, List.getElem?_eq_getElem (by rw [← LX.out]; exact hlt)⟩
      have d1 := (HB.out.cell (p := ⟨b1, o1 + k, none⟩) l1).trans (su_cell c1 hxe)
      have d2 := (HB.out.cell (p := ⟨b2, o2 + k, none⟩) l2).trans (su_cell c2 hxe)
      clear c1 c2 hxe
      have hxx : (uz x != uz x) = false := by simp
      go_wp2_with fail
      go_quiet (fail)
      go_wp2_with fail
      go_roundw
      case rel => exact ⟨k + 1, by omega, by go_num, below_drewN HB.out _⟩
      case measure => simp [intOf]; omega
    · go_wp2
      go_ret
      exact ⟨rfl, HB.out⟩
theorem ssame (A B : Option Addr) (cA cB na nb : Nat) (xs ys : List UInt64) (w : World) (hx : Rg ucells w A xs) (hy : Rg ucells w B ys) (lx : na = xs.length) (ly : nb = ys.length) (hn : na ≤ 1000000) (he : xs = ys) :
    Calls Tryz.prog 17 #[.slice A na cA, .slice B nb cB] w fun e w' => e = .returned (.bool true) ∧ Below w.heap.size w w' := by
  subst he
  obtain rfl : nb = na := by rw [lx, ly]
  exact ssame_core A B cA cB nb xs w hx hy lx hn

end Go.Proofs.YtklgjhldebdegaaGreat

namespace Go.Proofs.YtklgjhldebdegaaGreat
open Go.RowKit

set_option maxHeartbeats 1000000 in
theorem rshift9 (z : UInt64) (k : Nat) (hk : k < 64) (w : World) : Calls Tryz.prog 77 #[.int .u64 (uz z), .int .i64 (k : Int)] w fun e w' => e = .returned (.int .u64 (uz (mixU k z))) ∧ Below w.heap.size w w' := by
  have h0 := uz_lo z
  have h1 := uz_hi z
  have k0 : (0 : Int) ≤ (k : Int) := by omega
  have k1 : (k : Int) < 64 := by omega
  have HM := Lib.hid (uz_mix (k := k) z)
  clear hk
  go_enter Tryz.func77, Tryz.ntmps77
  go_wp2_with fail
  go_ret
  exact ⟨by rw [← HM.out]; rfl, Below.refl _ _⟩


theorem g_lit : uz gU = 11400714819323198485 := rfl
theorem a_lit : uz aU = 13787848793156543929 := rfl
theorem b_lit : uz bU = 10723151780598845931 := rfl

set_option maxHeartbeats 2000000 in
theorem rnumber9 (s i : UInt64) (w : World) : Calls Tryz.prog 54 #[.int .u64 (uz s), .int .u64 (uz i)] w fun e w' => e = .returned (.int .u64 (uz (numU s i))) ∧ Below w.heap.size w w' := by
  have e1 : IntKind.u64.wrap (uz i + 1) = uz (i + 1) := uz_add i 1
  have e2 : IntKind.u64.wrap (uz (i + 1) * 11400714819323198485) = uz ((i + 1) * gU) := by rw [← g_lit]; exact uz_mul _ _
  have e3 : IntKind.u64.wrap (uz s + uz ((i + 1) * gU)) = uz (s + (i + 1) * gU) := uz_add _ _
  obtain ⟨z, hz⟩ : ∃ z, z = s + (i + 1) * gU := ⟨_, rfl⟩
  rw [← hz] at e3
  obtain ⟨y, hy⟩ : ∃ y, y = mixU 30 z * aU := ⟨_, rfl⟩
  obtain ⟨x, hx⟩ : ∃ x, x = mixU 27 y * bU := ⟨_, rfl⟩
  have e4 : IntKind.u64.wrap (uz (mixU 30 z) * 13787848793156543929) = uz y := by rw [hy, ← a_lit]; exact uz_mul _ _
  have e5 : IntKind.u64.wrap (uz (mixU 27 y) * 10723151780598845931) = uz x := by rw [hx, ← b_lit]; exact uz_mul _ _
  have HN : Hid (numU s i = mixU 31 x) := by show _ = _; rw [hx, hy, hz]; rfl
  clear hx hy hz
  go_enter Tryz.func54, Tryz.ntmps54
  go_wp2_with fail
  refine (rshift9 z 30 (by decide) _).mono ?_
  rintro e w1 ⟨rfl, hb⟩
  have B1 := Lib.hid hb
  clear hb
  go_wp2_with fail
  refine (rshift9 y 27 (by decide) _).mono ?_
  rintro e w2 ⟨rfl, hb⟩
  have B2 := Lib.hid (chain B1.out hb)
  clear hb
  go_wp2_with fail
  refine (rshift9 x 31 (by decide) _).mono ?_
  rintro e w3 ⟨rfl, hb⟩
  have B3 := Lib.hid (chain B2.out hb)
  clear hb
  go_wp2_with fail
  go_ret
  exact ⟨by rw [HN.out]; rfl, B3.out⟩

theorem uz_conv (k : Nat) : IntKind.u64.wrap (k : Int) = uz (UInt64.ofNat k) := by
  rw [IntKind.wrap_u64]; unfold uz; rw [UInt64.toNat_ofNat']; omega

end Go.Proofs.YtklgjhldebdegaaGreat

namespace Go.Proofs.YtklgjhldebdegaaGreat
open Go.RowKit
set_option maxHeartbeats 2000000 in
set_option maxRecDepth 100000 in
theorem rhalf11 (s : UInt64) (a : Int) (i : UInt64) (w : World) : Calls Tryz.prog 37 #[.int .u64 (uz s), .int .i64 a, .int .u64 (uz i)] w fun e w' => e = .returned (tpv (halfU s a i)) ∧ Below w.heap.size w w' := by
  have e0 : IntKind.u64.wrap (5 * uz i) = uz (5 * i) := uz_mul 5 i
  have e1 : IntKind.u64.wrap (uz (5 * i) + 1) = uz (5 * i + 1) := uz_add _ 1
  have e2 : IntKind.u64.wrap (uz (5 * i) + 2) = uz (5 * i + 2) := uz_add _ 2
  have e3 : IntKind.u64.wrap (uz (5 * i) + 3) = uz (5 * i + 3) := uz_add _ 3
  have e4 : IntKind.u64.wrap (uz (5 * i) + 4) = uz (5 * i + 4) := uz_add _ 4
  have C : Hid (∀ (j : UInt64) w, Calls Tryz.prog 54 #[.int .u64 (uz s), .int .u64 (uz j)] w fun e w' => e = .returned (.int .u64 (uz (numU s j))) ∧ Below w.heap.size w w') := fun j w => rnumber9 s j w
  obtain ⟨p, hp⟩ : ∃ p, p = numU s (5 * i) := ⟨_, rfl⟩
  obtain ⟨q, hq⟩ : ∃ q, q = numU s (5 * i + 1) := ⟨_, rfl⟩
  obtain ⟨r, hr⟩ : ∃ r, r = numU s (5 * i + 2) := ⟨_, rfl⟩
  obtain ⟨u, hu⟩ : ∃ u, u = numU s (5 * i + 3) := ⟨_, rfl⟩
  obtain ⟨v, hv⟩ : ∃ v, v = numU s (5 * i + 4) := ⟨_, rfl⟩
  have H0 := Lib.hid hp; have H1 := Lib.hid hq; have H2 := Lib.hid hr; have H3 := Lib.hid hu; have H4 := Lib.hid hv
  clear hp hq hr hu hv
  have Z : Hid (TC (w.alloc (.cells #[.int .u64 0, .int .u64 0, .int .u64 0] 74)) w.heap.size Tp.z) := heap_alloc_new w _
  have B0 := Lib.hid (chain_alloc (Below.refl _ w) (.cells #[.int .u64 0, .int .u64 0, .int .u64 0] 74))
  go_enter Tryz.func37, Tryz.ntmps37
  go_wp2_with fail
  refine (C.out _ _).mono ?_
  rintro e w1 ⟨rfl, hb⟩
  rw [← H0.out]
  have B1 := Lib.hid (chain B0.out hb)
  replace Z := Lib.hid (Z.out.below hb)
  clear hb B0
  go_wp2_with fail
  refine (C.out _ _).mono ?_
  rintro e w2 ⟨rfl, hb⟩
  rw [← H1.out]
  have B2 := Lib.hid (chain B1.out hb)
  replace Z := Lib.hid (Z.out.below hb)
  clear hb B1
  go_wp2_with fail
  refine (C.out _ _).mono ?_
  rintro e w3 ⟨rfl, hb⟩
  rw [← H2.out]
  have B3 := Lib.hid (chain B2.out hb)
  replace Z := Lib.hid (Z.out.below hb)
  clear hb B2
  go_wp2_with fail
  refine (C.out _ _).mono ?_
  rintro e w4 ⟨rfl, hb⟩
  rw [← H3.out]
  have B4 := Lib.hid (chain B3.out hb)
  replace Z := Lib.hid (Z.out.below hb)
  clear hb B3
  go_wp2_with fail
  refine (C.out _ _).mono ?_
  rintro e w5 ⟨rfl, hb⟩
  rw [← H4.out]
  have B5 := Lib.hid (chain B4.out hb)
  replace Z := Lib.hid (Z.out.below hb)
  clear hb B4
  obtain ⟨y0, y1, y2⟩ := Z.out.cells
  have f0 := Z.out.frozen 0
  have f1 := Z.out.frozen 1
  have f2 := Z.out.frozen 2
  have lz := Z.out.lt
  by_cases h0 : a = 0
  · have d : (a == 0) = true := by simp [h0]
    have E : Hid (halfU s a i = ⟨p, q, r⟩) := by show _ = _; rw [h0, half_zero, H0.out, H1.out, H2.out]
    clear h0 e0 e1 e2 e3 e4
    go_wp2_with fail
    exact bodyPost_ret (v := tpv ⟨p, q, r⟩) (by simp [results, Tryz.results37, go_sem, tpv, y0, y1, y2]) rfl ⟨by rw [E.out], below_set3 B5.out (Nat.le_refl _) _ _ _⟩
  · have d : (a == 0) = false := by simp [h0]
    have E : Hid (halfU s a i = ⟨u, v, (p + u) * (q + v) - r⟩) := by show _ = _; rw [half_one h0, H0.out, H1.out, H2.out, H3.out, H4.out]
    have g1 : IntKind.u64.wrap (uz p + uz u) = uz (p + u) := uz_add _ _
    have g2 : IntKind.u64.wrap (uz q + uz v) = uz (q + v) := uz_add _ _
    have g3 : IntKind.u64.wrap (uz (p + u) * uz (q + v)) = uz ((p + u) * (q + v)) := uz_mul _ _
    have g4 : IntKind.u64.wrap (uz ((p + u) * (q + v)) - uz r) = uz ((p + u) * (q + v) - r) := uz_sub _ _
    clear h0 e0 e1 e2 e3 e4
    go_wp2_with fail
    exact bodyPost_ret (v := tpv ⟨u, v, (p + u) * (q + v) - r⟩) (by simp [results, Tryz.results37, go_sem, tpv, y0, y1, y2]) rfl ⟨by rw [E.out], below_set3 B5.out (Nat.le_refl _) _ _ _⟩

end Go.Proofs.YtklgjhldebdegaaGreat

namespace Go.Proofs.YtklgjhldebdegaaGreat
open Go.RowKit

/-- z, shifted by so many bits and laid upon itself, so often. -/
def mxN (k : Nat) (z : UInt64) : Nat → UInt64
  | 0 => z
  | n + 1 => mixU k (mxN k z n)
set_option maxHeartbeats 1000000 in
theorem smix9 (z : UInt64) (k n bt : Nat) (hk : k < 64) (hn : n ≤ 100) (w : World) (hT : CB w bt 3 (.int .i64 (n : Int))) : Calls Tryz.prog 149 #[.int .u64 (uz z), .int .u64 (k : Int), .pointer (some ⟨bt, 0, none⟩)] w fun e w' => e = .returned (.int .u64 (uz (mxN k z n))) ∧ Below w.heap.size w w' := by
  have k0 : (0 : Int) ≤ (k : Int) := by omega
  have k1 : (k : Int) < 64 := by omega
  have ct := hT.cell
  have lt := hT.lt
  clear hk hT
  go_enter Tryz.func149, Tryz.ntmps149
  go_wp2_with fail
  go_loop [0, 7] (fun x i => ∃ j : Nat, j ≤ n ∧ x = .int .u64 (uz (mxN k z j)) ∧ i = .int .i64 (j : Int)) (fun _ i => n - (intOf i).toNat)
  case atStart => exact ⟨0, Nat.zero_le _, rfl, rfl⟩
  case round =>
    obtain ⟨j, hj, rfl, rfl⟩ := hrel
    by_cases jn : j < n
    · have ji : (j : Int) < (n : Int) := by omega
      have h0 := uz_lo (mxN k z j); have h1 := uz_hi (mxN k z j)
      have E : Hid (bits .xor .u64 (uz (mxN k z j)) (uz (mxN k z j) / 2 ^ k) = uz (mxN k z (j + 1))) := by show _ = _; rw [uz_mix]; rfl
      go_wp2_with fail
      refine ⟨⟨j + 1, by omega, ?_, by go_num⟩, by simp [intOf]; omega⟩
      rw [E.out]
    · obtain rfl : j = n := by omega
      go_wp2_with fail
      go_ret
      exact ⟨rfl, Below.refl _ _⟩

set_option maxHeartbeats 1000000 in
theorem shifts9 (n : Nat) (w : World) : Calls Tryz.prog 148 #[.int .i64 (n : Int)] w fun e w' => ∃ bt : Nat, e = .returned (.func (.func 149) #[] #[.pointer (some ⟨bt, 0, none⟩)]) ∧ CB w' bt 3 (.int .i64 (n : Int)) ∧ Below w.heap.size w w' := by
  have hmf : ∀ (fn : Fn) (first cap : Array Value) (w : World), (Instr.makeFunc fn first cap).run Tryz.prog w = .ok (.func fn first cap) w := fun _ _ _ _ => rfl
  go_enter Tryz.func148, Tryz.ntmps148
  go_wp2_with fail
  go_ret
  exact ⟨w.heap.size, rfl, heap_alloc_new w _, chain_alloc (Below.refl _ w) _⟩

set_option maxHeartbeats 2000000 in
theorem number9 (s i : UInt64) (w : World) : Calls Tryz.prog 147 #[.int .u64 (uz s), .int .u64 (uz i)] w fun e w' => e = .returned (.int .u64 (uz (numU s i))) ∧ Below w.heap.size w w' := by
  have e1 : IntKind.u64.wrap (uz i + 1) = uz (i + 1) := uz_add i 1
  have e2 : IntKind.u64.wrap (uz (i + 1) * 11400714819323198485) = uz ((i + 1) * gU) := by rw [← g_lit]; exact uz_mul _ _
  have e3 : IntKind.u64.wrap (uz s + uz ((i + 1) * gU)) = uz (s + (i + 1) * gU) := uz_add _ _
  obtain ⟨z, hz⟩ : ∃ z, z = s + (i + 1) * gU := ⟨_, rfl⟩
  rw [← hz] at e3
  obtain ⟨y, hy⟩ : ∃ y, y = mixU 30 z * aU := ⟨_, rfl⟩
  obtain ⟨x, hx⟩ : ∃ x, x = mixU 27 y * bU := ⟨_, rfl⟩
  have e4 : IntKind.u64.wrap (uz (mixU 30 z) * 13787848793156543929) = uz y := by rw [hy, ← a_lit]; exact uz_mul _ _
  have e5 : IntKind.u64.wrap (uz (mixU 27 y) * 10723151780598845931) = uz x := by rw [hx, ← b_lit]; exact uz_mul _ _
  have HN : Hid (numU s i = mixU 31 x) := by show _ = _; rw [hx, hy, hz]; rfl
  have MX : Hid (∀ (u : UInt64) (k bt : Nat) w, k < 64 → CB w bt 3 (.int .i64 1) → Calls Tryz.prog 149 #[.int .u64 (uz u), .int .u64 (k : Int), .pointer (some ⟨bt, 0, none⟩)] w fun e w' => e = .returned (.int .u64 (uz (mixU k u))) ∧ Below w.heap.size w w') := fun u k bt w hk hT => smix9 u k 1 bt hk (by decide) w hT
  clear hx hy hz
  go_enter Tryz.func147, Tryz.ntmps147
  go_wp2_with fail
  refine (shifts9 1 _).mono ?_
  rintro e w0 ⟨bt, rfl, hT, hb⟩
  have B0 := Lib.hid hb
  have T0 := Lib.hid hT
  clear hb hT
  go_wp2_with fail
  refine (MX.out z 30 bt _ (by decide) T0.out).mono ?_
  rintro e w1 ⟨rfl, hb⟩
  have B1 := Lib.hid (chain B0.out hb)
  have T1 := Lib.hid (T0.out.below hb)
  clear hb
  go_wp2_with fail
  refine (MX.out y 27 bt _ (by decide) T1.out).mono ?_
  rintro e w2 ⟨rfl, hb⟩
  have B2 := Lib.hid (chain B1.out hb)
  have T2 := Lib.hid (T1.out.below hb)
  clear hb
  go_wp2_with fail
  refine (MX.out x 31 bt _ (by decide) T2.out).mono ?_
  rintro e w3 ⟨rfl, hb⟩
  have B3 := Lib.hid (chain B2.out hb)
  clear hb
  go_wp2_with fail
  go_ret
  exact ⟨by rw [HN.out]; rfl, B3.out⟩

end Go.Proofs.YtklgjhldebdegaaGreat

namespace Go.Proofs.YtklgjhldebdegaaGreat
open Go.RowKit

/-- An array, or a row, of numbers that is being filled; T: the type that its block has. -/
def AB9 (T : Nat) (w : World) (g n k : Nat) (us : List UInt64) : Prop :=
  ∃ cs : Array Value, w.heap[g]? = some (.cells cs T (0, 0)) ∧ cs.size = n ∧ (∀ j, j < n → ∃ v : Int, cs[j]? = some (.int .u64 v)) ∧ ∀ j x, j < k → us[j]? = some x → cs[j]? = some (.int .u64 (uz x))
theorem AB9.lt {T : Nat} {w : World} {g n k : Nat} {us : List UInt64} (h : AB9 T w g n k us) : g < w.heap.size := by
  obtain ⟨cs, h1, _⟩ := h
  exact (Array.getElem?_eq_some_iff.1 h1).1
theorem AB9.start (T : Nat) (w : World) (n : Nat) (us : List UInt64) : AB9 T (w.alloc (.cells (madeCells #[.int .u64 0] n) T)) w.heap.size n 0 us := by
  refine ⟨_, heap_alloc_new w _, size_madeCells _ _, fun j hj => ⟨0, ?_⟩, fun j _ hj => absurd hj (by omega)⟩
  simp [madeCells, hj, Nat.mod_one]
theorem AB9.below {T : Nat} {w w' : World} {g n k : Nat} {us : List UInt64} (h : AB9 T w g n k us) (hb : Below w.heap.size w w') : AB9 T w' g n k us := by
  have hl := h.lt
  obtain ⟨cs, h1, h2⟩ := h
  exact ⟨cs, (hb.block g hl).trans h1, h2⟩
theorem AB9.drew {T : Nat} {w : World} {g n k : Nat} {us : List UInt64} (h : AB9 T w g n k us) : AB9 T w.drew g n k us := h
theorem AB9.facts {T : Nat} {w : World} {g n k : Nat} {us : List UInt64} (h : AB9 T w g n k us) (hk : k < n) : (∃ v, w.cell? ⟨g, k, none⟩ = some (.int .u64 v)) ∧ w.frozen? ⟨g, k, none⟩ = false := by
  obtain ⟨cs, h1, h2, h3, _⟩ := h
  exact ⟨by rw [Lib.cell_of_heap h1]; exact h3 k hk, Lib.frozen_of_heap h1 k⟩
theorem AB9.any {T : Nat} {w : World} {g n k : Nat} {us : List UInt64} (h : AB9 T w g n k us) {j : Nat} (hj : j < n) : (∃ v, w.cell? ⟨g, j, none⟩ = some (.int .u64 v)) ∧ w.frozen? ⟨g, j, none⟩ = false := by
  obtain ⟨cs, h1, h2, h3, _⟩ := h
  exact ⟨by rw [Lib.cell_of_heap h1]; exact h3 j hj, Lib.frozen_of_heap h1 j⟩
theorem AB9.step {T : Nat} {w : World} {g n k : Nat} {us : List UInt64} {x : UInt64} (h : AB9 T w g n k us) (hk : k < n) (hx : us[k]? = some x) : AB9 T (w.setCell ⟨g, k, none⟩ (.int .u64 (uz x))) g n (k + 1) us := by
  obtain ⟨cs, h1, h2, h3, h4⟩ := h
  refine ⟨_, Lib.heap_setCell_same h1 _, by simp [h2], fun j hj => ?_, fun j y hj hy => ?_⟩
  · by_cases e : j = k
    · subst e; exact ⟨_, by rw [Array.getElem?_setIfInBounds_self_of_lt (by omega)]⟩
    · obtain ⟨v, hv⟩ := h3 j hj
      exact ⟨v, by rw [Array.getElem?_setIfInBounds_ne (by omega)]; exact hv⟩
  · by_cases e : j = k
    · subst e
      rw [hx] at hy
      obtain rfl := Option.some.inj hy
      rw [Array.getElem?_setIfInBounds_self_of_lt (by omega)]
    · rw [Array.getElem?_setIfInBounds_ne (by omega)]
      exact h4 j y (by omega) hy
theorem AB9.done {T : Nat} {w : World} {g n : Nat} {us : List UInt64} (h : AB9 T w g n n us) (hn : us.length = n) : Rg ucells w (some ⟨g, 0, none⟩) us := fun _ => by
  have hl := h.lt
  obtain ⟨cs, h1, h2, h3, h4⟩ := h
  refine ⟨g, 0, rfl, hl, fun j u hu => ?_⟩
  rw [Nat.zero_add, Lib.cell_of_heap h1]
  have hj : j < us.length := by
    have := (List.getElem?_eq_some_iff.1 hu).1
    rw [flat_len ucells_len] at this; omega
  have hx := List.getElem?_eq_getElem hj
  have := flat_get ucells_len us j 0 _ hx (by decide)
  rw [Nat.mul_one, Nat.add_zero] at this
  rw [this] at hu
  obtain rfl := Option.some.inj hu
  exact h4 j _ (by omega) hx


theorem AB9.cell {T : Nat} {w : World} {g n k : Nat} {us : List UInt64} {x : UInt64} (h : AB9 T w g n n us) (hk : k < n) (hx : us[k]? = some x) : w.cell? ⟨g, k, none⟩ = some (.int .u64 (uz x)) := by
  obtain ⟨cs, h1, _, _, h4⟩ := h
  rw [Lib.cell_of_heap h1]
  exact h4 k x hk hx
/-- The five numbers that a triple is made of. -/
def fiveL (s i : UInt64) : List UInt64 := (List.range 5).map fun k => numU s (5 * i + UInt64.ofNat k)
theorem fiveL_get (s i : UInt64) {k : Nat} (h : k < 5) : (fiveL s i)[k]? = some (numU s (5 * i + UInt64.ofNat k)) := by simp [fiveL, h]

/-- Five numbers, as an array. -/
def arr5 (s i : UInt64) : Value := .agg #[.int .u64 (uz (numU s (5 * i))), .int .u64 (uz (numU s (5 * i + 1))), .int .u64 (uz (numU s (5 * i + 2))), .int .u64 (uz (numU s (5 * i + 3))), .int .u64 (uz (numU s (5 * i + 4)))]
theorem AB9.zero (T : Nat) (w : World) (us : List UInt64) : AB9 T (w.alloc (.cells #[.int .u64 0, .int .u64 0, .int .u64 0, .int .u64 0, .int .u64 0] T)) w.heap.size 5 0 us :=
  ⟨_, heap_alloc_new w _, rfl, fun j hj => ⟨0, by
    have : j = 0 ∨ j = 1 ∨ j = 2 ∨ j = 3 ∨ j = 4 := by omega
    rcases this with rfl | rfl | rfl | rfl | rfl <;> rfl⟩, fun j _ hj => absurd hj (by omega)⟩

set_option maxHeartbeats 2000000 in
set_option maxRecDepth 100000 in
theorem numbers11 (s i : UInt64) (w : World) : Calls Tryz.prog 144 #[.int .u64 (uz s), .int .u64 (uz i)] w fun e w' => e = .returned (arr5 s i) ∧ Below w.heap.size w w' := by
  have e0 := Lib.hid (uz_mul 5 i)
  go_enter Tryz.func144, Tryz.ntmps144
  go_wp2_with fail
  obtain ⟨V, hV⟩ : ∃ V, V = w.alloc (.cells #[.int .u64 0, .int .u64 0, .int .u64 0, .int .u64 0, .int .u64 0] 175) := ⟨_, rfl⟩
  obtain ⟨V2, hV2⟩ : ∃ V2, V2 = V.alloc (.cells #[.int .u64 0, .int .u64 0, .int .u64 0, .int .u64 0, .int .u64 0] 175) := ⟨_, rfl⟩
  have hs : V.heap.size = w.heap.size + 1 := by rw [hV]; simp
  have Z : Hid (AB9 175 V2 w.heap.size 5 0 (fiveL s i)) := by
    rw [hV2]
    refine AB9.below ?_ (chain_alloc (Below.refl _ _) _)
    rw [hV]
    exact AB9.zero _ w _
  have F0 : Hid (AB9 175 V2 (w.heap.size + 1) 5 0 (fiveL s i)) := by
    rw [hV2, ← hs]
    exact AB9.zero _ V _
  have B0 : Hid (Below w.heap.size w V2) := by rw [hV2, hV]; exact chain_alloc (chain_alloc (Below.refl _ w) _) _
  rw [← hV, ← hV2]
  obtain ⟨g, hg⟩ : ∃ g, g = w.heap.size + 1 := ⟨_, rfl⟩
  rw [← hg] at F0 ⊢
  obtain ⟨z, hz⟩ : ∃ z, z = w.heap.size := ⟨_, rfl⟩
  have gz : g ≠ z := by omega
  have gl : w.heap.size ≤ g := by omega
  have zl : w.heap.size ≤ z := by omega
  rw [← hz] at Z ⊢
  clear hV hV2 hs hg hz
  go_loopg [6, 7] 5 (fun gh _ s9 wx => ∃ k : Nat, k ≤ 5 ∧ Hid (gh = 5 - k) ∧ s9 = .int .i64 (k : Int) ∧ Hid (AB9 175 wx g 5 k (fiveL s i)) ∧ Hid (AB9 175 wx z 5 0 (fiveL s i)) ∧ Hid (Below w.heap.size w wx))
  case atStart => exact ⟨0, by omega, by show _ = _; omega, rfl, F0, Z, B0⟩
  case round =>
    obtain ⟨k, hk, HG, rfl, FK, ZK, BK⟩ := hrel
    by_cases kn : k < 5
    · have ki : (k : Int) < 5 := by omega
      have ka : (0 : Int) ≤ (k : Int) := by omega
      obtain ⟨y, hy⟩ : ∃ y, y = 5 * i + UInt64.ofNat k := ⟨_, rfl⟩
      obtain ⟨x, hx⟩ : ∃ x, x = numU s y := ⟨_, rfl⟩
      have u1 := uz_conv k
      have u2 : IntKind.u64.wrap (5 * uz i) = uz (5 * i) := e0.out
      have u3 : IntKind.u64.wrap (uz (5 * i) + uz (UInt64.ofNat k)) = uz y := by rw [hy]; exact uz_add _ _
      have GX : Hid ((fiveL s i)[k]? = some x) := by rw [hx, hy]; exact fiveL_get s i kn
      have KN : Hid (k < 5) := kn
      have CN : Hid (∀ w, Calls Tryz.prog 147 #[.int .u64 (uz s), .int .u64 (uz y)] w fun e w' => e = .returned (.int .u64 (uz x)) ∧ Below w.heap.size w w') := fun w => by rw [hx]; exact number9 s y w
      clear hx hy
      go_wp2_with fail
      refine (CN.out _).mono ?_
      rintro e w2 ⟨rfl, hb⟩
      have F2 := Lib.hid (FK.out.below hb)
      have Z2 := Lib.hid (ZK.out.below hb)
      have B2 := Lib.hid (chain BK.out hb)
      obtain ⟨⟨v, c0⟩, q0⟩ := F2.out.facts kn
      clear hb u1 u2 u3 kn
      go_wp2_with fail
      have F3 := Lib.hid (F2.out.step KN.out GX.out)
      have Z3 : Hid (AB9 175 (w2.setCell ⟨g, k, none⟩ (.int .u64 (uz x))) z 5 0 (fiveL s i)) := by
        obtain ⟨cs, h1, h2⟩ := Z2.out
        exact ⟨cs, (Below.heap_setCell w2 ⟨g, k, none⟩ _ z (Ne.symm gz)).trans h1, h2⟩
      have B3 : Hid (Below w.heap.size w (w2.setCell ⟨g, k, none⟩ (.int .u64 (uz x)))) := B2.out.setCell (p := ⟨g, k, none⟩) gl _
      go_roundg (5 - (k + 1))
      case measure => have := HG.out; have := KN.out; omega
      case rel => exact ⟨k + 1, by have := KN.out; omega, rfl, by go_num, F3, Z3, B3⟩
    · obtain rfl : k = 5 := by omega
      obtain ⟨p, hp⟩ : ∃ p, p = numU s (5 * i) := ⟨_, rfl⟩
      obtain ⟨q, hq⟩ : ∃ q, q = numU s (5 * i + 1) := ⟨_, rfl⟩
      obtain ⟨r, hr⟩ : ∃ r, r = numU s (5 * i + 2) := ⟨_, rfl⟩
      obtain ⟨u, hu⟩ : ∃ u, u = numU s (5 * i + 3) := ⟨_, rfl⟩
      obtain ⟨v, hv⟩ : ∃ v, v = numU s (5 * i + 4) := ⟨_, rfl⟩
      have E : Hid (arr5 s i = .agg #[.int .u64 (uz p), .int .u64 (uz q), .int .u64 (uz r), .int .u64 (uz u), .int .u64 (uz v)]) := by show _ = _; rw [hp, hq, hr, hu, hv]; rfl
      have c0 := FK.out.cell (k := 0) (x := p) (by decide) (by rw [hp, fiveL_get s i (by decide)]; exact congrArg (fun y => some (numU s y)) (UInt64.add_zero _))
      have c1 := FK.out.cell (k := 1) (x := q) (by decide) (by rw [hq, fiveL_get s i (by decide)]; rfl)
      have c2 := FK.out.cell (k := 2) (x := r) (by decide) (by rw [hr, fiveL_get s i (by decide)]; rfl)
      have c3 := FK.out.cell (k := 3) (x := u) (by decide) (by rw [hu, fiveL_get s i (by decide)]; rfl)
      have c4 := FK.out.cell (k := 4) (x := v) (by decide) (by rw [hv, fiveL_get s i (by decide)]; rfl)
      obtain ⟨⟨x0, y0⟩, f0⟩ := ZK.out.any (j := 0) (by decide)
      obtain ⟨⟨x1, y1⟩, f1⟩ := ZK.out.any (j := 1) (by decide)
      obtain ⟨⟨x2, y2⟩, f2⟩ := ZK.out.any (j := 2) (by decide)
      obtain ⟨⟨x3, y3⟩, f3⟩ := ZK.out.any (j := 3) (by decide)
      obtain ⟨⟨x4, y4⟩, f4⟩ := ZK.out.any (j := 4) (by decide)
      have lz := ZK.out.lt
      have lg := FK.out.lt
      clear hp hq hr hu hv
      go_wp2_with fail
      exact bodyPost_ret (v := .agg #[.int .u64 (uz p), .int .u64 (uz q), .int .u64 (uz r), .int .u64 (uz u), .int .u64 (uz v)]) (by simp [results, Tryz.results144, go_sem, y0, y1, y2, y3, y4]) rfl ⟨by rw [E.out], below_set5 BK.out zl _ _ _ _ _⟩

set_option maxHeartbeats 2000000 in
set_option maxRecDepth 100000 in
theorem half11 (s : UInt64) (a : Int) (i : UInt64) (w : World) : Calls Tryz.prog 141 #[.int .u64 (uz s), .int .i64 a, .int .u64 (uz i)] w fun e w' => e = .returned (tpv (halfU s a i)) ∧ Below w.heap.size w w' := by
  obtain ⟨p, hp⟩ : ∃ p, p = numU s (5 * i) := ⟨_, rfl⟩
  obtain ⟨q, hq⟩ : ∃ q, q = numU s (5 * i + 1) := ⟨_, rfl⟩
  obtain ⟨r, hr⟩ : ∃ r, r = numU s (5 * i + 2) := ⟨_, rfl⟩
  obtain ⟨u, hu⟩ : ∃ u, u = numU s (5 * i + 3) := ⟨_, rfl⟩
  obtain ⟨v, hv⟩ : ∃ v, v = numU s (5 * i + 4) := ⟨_, rfl⟩
  have CN : Hid (∀ w, Calls Tryz.prog 144 #[.int .u64 (uz s), .int .u64 (uz i)] w fun e w' => e = .returned (.agg #[.int .u64 (uz p), .int .u64 (uz q), .int .u64 (uz r), .int .u64 (uz u), .int .u64 (uz v)]) ∧ Below w.heap.size w w') := fun w => by rw [hp, hq, hr, hu, hv]; exact numbers11 s i w
  have E0 : Hid (a = 0 → halfU s a i = ⟨p, q, r⟩) := fun h0 => by rw [h0, half_zero, hp, hq, hr]
  have E1 : Hid (a ≠ 0 → halfU s a i = ⟨u, v, (p + u) * (q + v) - r⟩) := fun h0 => by rw [half_one h0, hp, hq, hr, hu, hv]
  clear hp hq hr hu hv
  go_enter Tryz.func141, Tryz.ntmps141
  go_wp2_with fail
  refine (CN.out _).mono ?_
  rintro e w1 ⟨rfl, hb⟩
  obtain ⟨z, hz⟩ : ∃ z, z = w.heap.size := ⟨_, rfl⟩
  have Z : Hid (TC w1 z Tp.z) := by rw [hz]; exact TC.below (t := Tp.z) (heap_alloc_new w _) hb
  have BK : Hid (Below w.heap.size w w1) := (chain_alloc (Below.refl _ w) _).trans (hb.mono (by simp))
  have zl : w.heap.size ≤ z := by omega
  rw [← hz]
  clear hb hz
  go_wp2_with fail
  obtain ⟨V, hV⟩ : ∃ V, V = w1.alloc (.cells #[.int .u64 (uz p), .int .u64 (uz q), .int .u64 (uz r), .int .u64 (uz u), .int .u64 (uz v)] 175) := ⟨_, rfl⟩
  have ZV : Hid (TC V z Tp.z) := by rw [hV]; exact Z.out.below (chain_alloc (Below.refl _ _) _)
  have BV : Hid (Below w.heap.size w V) := by rw [hV]; exact chain_alloc BK.out _
  have FV : Hid (V.heap[w1.heap.size]? = some (.cells #[.int .u64 (uz p), .int .u64 (uz q), .int .u64 (uz r), .int .u64 (uz u), .int .u64 (uz v)] 175 (0, 0))) := by rw [hV]; exact heap_alloc_new w1 _
  rw [← hV]
  clear hV
  obtain ⟨g, hg⟩ : ∃ g, g = w1.heap.size := ⟨_, rfl⟩
  rw [← hg] at FV ⊢
  clear hg
  have c0 : V.cell? ⟨g, 0, none⟩ = some (.int .u64 (uz p)) := by rw [Lib.cell_of_heap FV.out]; rfl
  have c1 : V.cell? ⟨g, 1, none⟩ = some (.int .u64 (uz q)) := by rw [Lib.cell_of_heap FV.out]; rfl
  have c2 : V.cell? ⟨g, 2, none⟩ = some (.int .u64 (uz r)) := by rw [Lib.cell_of_heap FV.out]; rfl
  have c3 : V.cell? ⟨g, 3, none⟩ = some (.int .u64 (uz u)) := by rw [Lib.cell_of_heap FV.out]; rfl
  have c4 : V.cell? ⟨g, 4, none⟩ = some (.int .u64 (uz v)) := by rw [Lib.cell_of_heap FV.out]; rfl
  go_quiet (fail)
  obtain ⟨y0, y1, y2⟩ := ZV.out.cells
  have f0 := ZV.out.frozen 0
  have f1 := ZV.out.frozen 1
  have f2 := ZV.out.frozen 2
  have lz := ZV.out.lt
  by_cases h0 : a = 0
  · have d : (a == 0) = true := by simp [h0]
    have E := Lib.hid (E0.out h0)
    clear h0 c0 c1 c2 c3 c4 Z ZV
    go_wp2_with fail
    exact bodyPost_ret (v := tpv ⟨p, q, r⟩) (by simp [results, Tryz.results141, go_sem, tpv, y0, y1, y2]) rfl ⟨by rw [E.out], below_set3 (chain_drewN BV.out _) zl _ _ _⟩
  · have d : (a == 0) = false := by simp [h0]
    have E := Lib.hid (E1.out h0)
    have g1 : IntKind.u64.wrap (uz p + uz u) = uz (p + u) := uz_add _ _
    have g2 : IntKind.u64.wrap (uz q + uz v) = uz (q + v) := uz_add _ _
    have g3 : IntKind.u64.wrap (uz (p + u) * uz (q + v)) = uz ((p + u) * (q + v)) := uz_mul _ _
    have g4 : IntKind.u64.wrap (uz ((p + u) * (q + v)) - uz r) = uz ((p + u) * (q + v) - r) := uz_sub _ _
    clear h0 c0 c1 c2 c3 c4 Z ZV
    go_wp2_with fail
    exact bodyPost_ret (v := tpv ⟨u, v, (p + u) * (q + v) - r⟩) (by simp [results, Tryz.results141, go_sem, tpv, y0, y1, y2]) rfl ⟨by rw [E.out], below_set3 (chain_drewN BV.out _) zl _ _ _⟩

/-- A row of triples that is being filled. -/
def TB (w : World) (g n k : Nat) (ts : List Tp) : Prop :=
  ∃ cs : Array Value, w.heap[g]? = some (.cells cs 74 (0, 0)) ∧ cs.size = n * 3 ∧ (∀ j, j < n * 3 → ∃ v : Int, cs[j]? = some (.int .u64 v)) ∧ ∀ j t, j < k → ts[j]? = some t → cs[j * 3]? = some (.int .u64 (uz t.a)) ∧ cs[j * 3 + 1]? = some (.int .u64 (uz t.b)) ∧ cs[j * 3 + 2]? = some (.int .u64 (uz t.c))
theorem TB.lt {w : World} {g n k : Nat} {ts : List Tp} (h : TB w g n k ts) : g < w.heap.size := by
  obtain ⟨cs, h1, _⟩ := h
  exact (Array.getElem?_eq_some_iff.1 h1).1
theorem TB.start (w : World) (n : Nat) (ts : List Tp) : TB (w.alloc (.cells (madeCells #[.int .u64 0, .int .u64 0, .int .u64 0] (n * 3)) 74)) w.heap.size n 0 ts := by
  refine ⟨_, heap_alloc_new w _, size_madeCells _ _, fun j hj => ⟨0, ?_⟩, fun j _ hj => absurd hj (by omega)⟩
  have h3 : j % 3 = 0 ∨ j % 3 = 1 ∨ j % 3 = 2 := by omega
  rcases h3 with h3 | h3 | h3 <;> simp [madeCells, hj, h3]
theorem TB.below {w w' : World} {g n k : Nat} {ts : List Tp} (h : TB w g n k ts) (hb : Below w.heap.size w w') : TB w' g n k ts := by
  have hl := h.lt
  obtain ⟨cs, h1, h2⟩ := h
  exact ⟨cs, (hb.block g hl).trans h1, h2⟩
theorem TB.facts {w : World} {g n k : Nat} {ts : List Tp} (h : TB w g n k ts) (hk : k < n) : (∃ v, w.cell? ⟨g, k * 3, none⟩ = some (.int .u64 v)) ∧ (∃ v, w.cell? ⟨g, k * 3 + 1, none⟩ = some (.int .u64 v)) ∧ (∃ v, w.cell? ⟨g, k * 3 + 2, none⟩ = some (.int .u64 v)) ∧ w.frozen? ⟨g, k * 3, none⟩ = false ∧ w.frozen? ⟨g, k * 3 + 1, none⟩ = false ∧ w.frozen? ⟨g, k * 3 + 2, none⟩ = false := by
  obtain ⟨cs, h1, h2, h3, _⟩ := h
  exact ⟨by rw [Lib.cell_of_heap h1]; exact h3 _ (by omega), by rw [Lib.cell_of_heap h1]; exact h3 _ (by omega), by rw [Lib.cell_of_heap h1]; exact h3 _ (by omega), Lib.frozen_of_heap h1 _, Lib.frozen_of_heap h1 _, Lib.frozen_of_heap h1 _⟩
theorem TB.step {w : World} {g n k : Nat} {ts : List Tp} {t : Tp} (h : TB w g n k ts) (hk : k < n) (ht : ts[k]? = some t) :
    TB (((w.setCell ⟨g, k * 3, none⟩ (.int .u64 (uz t.a))).setCell ⟨g, k * 3 + 1, none⟩ (.int .u64 (uz t.b))).setCell ⟨g, k * 3 + 2, none⟩ (.int .u64 (uz t.c))) g n (k + 1) ts := by
  obtain ⟨cs, h1, h2, h3, h4⟩ := h
  refine ⟨_, Lib.heap_setCell_same (Lib.heap_setCell_same (Lib.heap_setCell_same h1 _) _) _, by simp [h2], fun j hj => ?_, fun j y hj hy => ?_⟩
  · obtain ⟨v, hv⟩ := h3 j hj
    by_cases e2 : j = k * 3 + 2
    · subst e2; exact ⟨_, Array.getElem?_setIfInBounds_self_of_lt (by simp; omega)⟩
    · rw [Array.getElem?_setIfInBounds_ne (Ne.symm e2)]
      by_cases e1 : j = k * 3 + 1
      · subst e1; exact ⟨_, Array.getElem?_setIfInBounds_self_of_lt (by simp; omega)⟩
      · rw [Array.getElem?_setIfInBounds_ne (Ne.symm e1)]
        by_cases e0 : j = k * 3
        · subst e0; exact ⟨_, Array.getElem?_setIfInBounds_self_of_lt (by omega)⟩
        · rw [Array.getElem?_setIfInBounds_ne (Ne.symm e0)]; exact ⟨v, hv⟩
  · by_cases e : j = k
    · subst e
      rw [ht] at hy
      obtain rfl := Option.some.inj hy
      refine ⟨?_, ?_, ?_⟩
      · rw [Array.getElem?_setIfInBounds_ne (by omega), Array.getElem?_setIfInBounds_ne (by omega), Array.getElem?_setIfInBounds_self_of_lt (by omega)]
      · rw [Array.getElem?_setIfInBounds_ne (by omega), Array.getElem?_setIfInBounds_self_of_lt (by simp; omega)]
      · rw [Array.getElem?_setIfInBounds_self_of_lt (by simp; omega)]
    · obtain ⟨q0, q1, q2⟩ := h4 j y (by omega) hy
      refine ⟨?_, ?_, ?_⟩ <;> rw [Array.getElem?_setIfInBounds_ne (by omega), Array.getElem?_setIfInBounds_ne (by omega), Array.getElem?_setIfInBounds_ne (by omega)] <;> assumption
theorem TB.done {w : World} {g n : Nat} {ts : List Tp} (h : TB w g n n ts) (hn : ts.length = n) : Rg tpcells w (some ⟨g, 0, none⟩) ts := fun _ => by
  have hl := h.lt
  obtain ⟨cs, h1, h2, h3, h4⟩ := h
  refine ⟨g, 0, rfl, hl, fun j u hu => ?_⟩
  rw [Nat.zero_add, Lib.cell_of_heap h1]
  have hj : j < ts.length * 3 := by
    have := (List.getElem?_eq_some_iff.1 hu).1
    rwa [flat_len tpcells_len] at this
  obtain ⟨t, ht⟩ : ∃ t, ts[j / 3]? = some t := ⟨_, List.getElem?_eq_getElem (by omega)⟩
  have := flat_get tpcells_len ts (j / 3) (j % 3) _ ht (by omega)
  rw [show j / 3 * 3 + j % 3 = j by omega, hu] at this
  obtain ⟨q0, q1, q2⟩ := h4 (j / 3) t (by omega) ht
  have h3 : j % 3 = 0 ∨ j % 3 = 1 ∨ j % 3 = 2 := by omega
  rcases h3 with e | e | e
  · rw [e] at this; rw [show j = j / 3 * 3 by omega]; rw [this]; exact q0
  · rw [e] at this; rw [show j = j / 3 * 3 + 1 by omega]; rw [this]; exact q1
  · rw [e] at this; rw [show j = j / 3 * 3 + 2 by omega]; rw [this]; exact q2

theorem below_set3t {w0 w : World} {B b : Nat} (H : Below B w0 w) (hb : B ≤ b) (j : Nat) (v0 v1 v2 : Value) :
    Below B w0 (((w.setCell ⟨b, j, none⟩ v0).setCell ⟨b, j + 1, none⟩ v1).setCell ⟨b, j + 2, none⟩ v2) :=
  ((H.setCell (p := ⟨b, j, none⟩) hb _).setCell (p := ⟨b, j + 1, none⟩) hb _).setCell (p := ⟨b, j + 2, none⟩) hb _

end Go.Proofs.YtklgjhldebdegaaGreat
