/-
  What the laws of this seat stand on, part 8.
-/
import Derived.Test.YtklgjhldebdegaaGreatB07
import Derived.Maps.AppendAt
import Derived.Deep.RegionHeld3
import Derived.Deep.AppendLies
import Derived.Deep.LoopGhost
import Derived.Deep.QuietTactic
import Derived.BigQuiet
import Derived.StillTailTactics
namespace Go.Proofs.YtklgjhldebdegaaGreat
open Go.RowKit

/-- A row of numbers and a Boolean that are handed out. -/
def PairTo (us : List UInt64) (r : Bool) (w : World) (e : Ending) (w' : World) : Prop :=
  ∃ (A : Option Addr) (k n : Nat), e = .returned (.tuple #[.slice A n k, .bool r]) ∧ n = us.length ∧ Rg ucells w' A us ∧ Below w.heap.size w w' ∧ n ≤ k ∧ k ≤ maxLen
def fitB (N : Nt) (m : Nat) : Bool := decide (errN N = 0 ∧ (m : Int) = totW (knN N))
def FitTo (N : Nt) (b : Bool) (w : World) (e : Ending) (w' : World) : Prop :=
  ∃ (A : Option Addr) (k n : Nat), e = .returned (.tuple #[.slice A n k, .bool b]) ∧ n = (shN N).length ∧ Rs w' A (shN N) ∧ Below w.heap.size w w'

set_option maxHeartbeats 1000000 in
theorem psize (S : Sh) (hr : S.r = true) (w : World) : Calls Tryz.prog 73 #[.agg #[.int .i64 S.c, .int .i64 S.h, .int .i64 S.x]] w fun e w' => e = .returned (.int .i64 S.n) ∧ Below w.heap.size w w' := by
  obtain ⟨r1, r2, r3, r4, r5, r6, r7⟩ := right_bd hr
  have hn := Sh.n_eq hr
  obtain ⟨s, hs⟩ : ∃ s, s = S.n := ⟨_, rfl⟩
  obtain ⟨m, hm⟩ : ∃ m, m = S.c * S.h := ⟨_, rfl⟩
  have b1 := mul_bd (show 0 ≤ S.c by omega) r2 (show 0 ≤ S.h by omega) r4
  have b2 := size_bd S
  rw [← hm] at b1
  rw [← hs] at b2
  rw [← hs, ← hm] at hn
  rw [← hs]
  have v1 : IntKind.i64.wrap (S.c * S.h) = m := by rw [← hm, IntWalk.i64_in _ (by omega)]
  have v2 : wrap64 (S.c * S.h) = m := by rw [← hm, IntWalk.wrap64_in _ (by omega)]
  have v3 : IntKind.i64.wrap (m * S.x) = s := by rw [← hn, IntWalk.i64_in _ (by omega)]
  have v4 : wrap64 (m * S.x) = s := by rw [← hn, IntWalk.wrap64_in _ (by omega)]
  clear hs hm hn b1 b2 r1 r2 r3 r4 r5 r6 r7 hr
  go_enter Tryz.func73, Tryz.ntmps73
  go_wp2_with fail
  go_ret
  exact ⟨rfl, chain_alloc (Below.refl _ w) _⟩

set_option maxHeartbeats 1000000 in
set_option maxRecDepth 100000 in
theorem fit_any (c h x : Int) (A W : Option Addr) (cA n cW nw : Nat) (ls : List Ly) (b : Bool) (hb : fitB ⟨c, h, x, ls⟩ nw = b) (w : World) (hx : Rl w A ls) (ln : n = ls.length) (hn : n ≤ 1000) :
    Calls Tryz.prog 72 #[.agg #[.int .i64 c, .int .i64 h, .int .i64 x, .slice A n cA], .slice W nw cW] w (FitTo ⟨c, h, x, ls⟩ b w) := by
  have HX := Lib.hid hx; have LX := Lib.hid ln; have HB := Lib.hid hb
  obtain ⟨er, her⟩ : ∃ er, er = errN ⟨c, h, x, ls⟩ := ⟨_, rfl⟩
  obtain ⟨tw, htw⟩ : ∃ tw, tw = totW (knN ⟨c, h, x, ls⟩) := ⟨_, rfl⟩
  have HER := Lib.hid her; have HTW := Lib.hid htw
  clear hx ln hb her htw
  go_enter Tryz.func72, Tryz.ntmps72
  go_wp2_with fail
  refine (shapes_any c h x A cA n ls _ (HX.out.below ((Below.refl _ w).alloc (Nat.le_refl _) _)) LX.out hn).mono ?_
  rintro e w1 ⟨A1, k1, n1, rfl, hn1, hR, hb, hd1, hd2⟩
  have B1 := Lib.hid (chain ((Below.refl w.heap.size w).alloc (Nat.le_refl _) _) hb)
  have N1 := Lib.hid ((NB.new w c h x (.slice A n cA)).below hb)
  obtain ⟨c0, c1, c2, c3⟩ := N1.out.cells
  have HR := Lib.hid hR; have HN := Lib.hid hn1
  clear hb hd1 hd2 hR hn1
  rw [← HER.out]
  go_wp2_with fail
  refine (all_any c h x A cA n ls _ (HX.out.below B1.out) LX.out hn).mono ?_
  rintro e w2 ⟨rfl, hb⟩
  rw [← HTW.out]
  have B2 := Lib.hid (chain B1.out hb)
  have R2 := Lib.hid (HR.out.below hb)
  clear hb c0 c1 c2 c3
  by_cases h0 : ¬ er = 0
  · have b0 : (er == 0) = false := by simpa using h0
    obtain rfl : b = false := by rw [← HB.out]; exact decide_eq_false (by rw [← HER.out]; exact fun q => h0 q.1)
    clear h0
    go_wp2_with fail
    go_ret2
    exact ⟨A1, k1, n1, rfl, HN.out, R2.out, B2.out⟩
  have h0 : er = 0 := by omega
  have b0 : (er == 0) = true := by rw [h0]; rfl
  by_cases h1 : (nw : Int) = tw
  · have b1 : ((nw : Int) == tw) = true := by rw [h1]; simp
    obtain rfl : b = true := by rw [← HB.out]; exact decide_eq_true (by rw [← HER.out, ← HTW.out]; exact ⟨h0, h1⟩)
    clear h0 h1
    go_wp2_with fail
    go_ret2
    exact ⟨A1, k1, n1, rfl, HN.out, R2.out, B2.out⟩
  · have b1 : ((nw : Int) == tw) = false := by simpa using h1
    obtain rfl : b = false := by rw [← HB.out]; exact decide_eq_false (by rw [← HTW.out]; exact fun q => h1 q.2)
    clear h0 h1
    go_wp2_with fail
    go_ret2
    exact ⟨A1, k1, n1, rfl, HN.out, R2.out, B2.out⟩

set_option maxHeartbeats 4000000 in
set_option maxRecDepth 100000 in
theorem layer_any (c h x : Int) (A X W : Option Addr) (cA n cX nx cW nw : Nat) (ls : List Ly) (xs ws us : List UInt64) (i : Int) (r : Bool) (w : World) (hx : Rl w A ls) (ln : n = ls.length) (hn : n ≤ 1000) (hX : Rg ucells w X xs) (lx : nx = xs.length) (hW : Rg ucells w W ws) (lw : nw = ws.length) (hus : layN ⟨c, h, x, ls⟩ i xs ws = us) (hr : okL ⟨c, h, x, ls⟩ i xs ws = r) :
    Calls Tryz.prog 49 #[.agg #[.int .i64 c, .int .i64 h, .int .i64 x, .slice A n cA], .int .i64 i, .slice X nx cX, .slice W nw cW] w (PairTo us r w) := by
  have HX := Lib.hid hx; have LX := Lib.hid ln; have HXR := Lib.hid hX; have LXX := Lib.hid lx; have HWR := Lib.hid hW; have LWW := Lib.hid lw
  have NO : Hid (okL ⟨c, h, x, ls⟩ i xs ws = false → r = false ∧ us = []) := fun e => ⟨hr.symm.trans e, by rw [← hus]; exact lay_no e⟩
  have HUS := Lib.hid hus; have HR := Lib.hid hr
  obtain ⟨b, hb⟩ : ∃ b, fitB ⟨c, h, x, ls⟩ nw = b := ⟨_, rfl⟩
  have HB := Lib.hid hb
  clear hx ln hX lx hW lw hus hr hb
  go_enter Tryz.func49, Tryz.ntmps49
  go_wp2_with fail
  refine (fit_any c h x A W cA n cW nw ls b HB.out _ (HX.out.below ((Below.refl _ w).alloc (Nat.le_refl _) _)) LX.out hn).mono ?_
  rintro e w1 ⟨A1, k1, n1, rfl, hn1, hR, hb⟩
  have B1 := Lib.hid (chain ((Below.refl w.heap.size w).alloc (Nat.le_refl _) _) hb)
  have N1 := Lib.hid ((NB.new w c h x (.slice A n cA)).below hb)
  obtain ⟨a0, a1, a2, a3⟩ := N1.out.cells
  have lN := N1.out.lt
  clear hb
  cases b
  · obtain ⟨rfl, rfl⟩ := NO.out (decide_eq_false fun q => of_decide_eq_false HB.out ⟨q.1.1, by rw [LWW.out]; exact q.2.2⟩)
    clear hn1 hR
    go_wp2_with fail
    go_ret2
    exact ⟨none, 0, 0, rfl, rfl, Rg.nil _ _ _, B1.out, Nat.le_refl _, Nat.zero_le _⟩
  obtain ⟨he, hw⟩ := of_decide_eq_true HB.out
  by_cases i0 : i < 0
  · have d0 : decide (i < 0) = true := decide_eq_true i0
    obtain ⟨rfl, rfl⟩ := NO.out (decide_eq_false fun q => by omega)
    clear hn1 hR he hw
    go_wp2_with fail
    go_ret2
    exact ⟨none, 0, 0, rfl, rfl, Rg.nil _ _ _, B1.out, Nat.le_refl _, Nat.zero_le _⟩
  have d0 : decide (i < 0) = false := decide_eq_false i0
  by_cases i1 : (n : Int) ≤ i
  · have d1 : decide ((n : Int) ≤ i) = true := decide_eq_true i1
    obtain ⟨rfl, rfl⟩ := NO.out (decide_eq_false fun q => by have q2 : i < (ls.length : Int) := q.1.2.2; have := LX.out; omega)
    clear hn1 hR he hw
    go_wp2_with fail
    go_ret2
    exact ⟨none, 0, 0, rfl, rfl, Rg.nil _ _ _, B1.out, Nat.le_refl _, Nat.zero_le _⟩
  have d1 : decide ((n : Int) ≤ i) = false := decide_eq_false i1
  obtain ⟨j, rfl⟩ : ∃ j : Nat, i = j := ⟨i.toNat, by omega⟩
  have jn : j < n := by omega
  have d2 : decide (n ≤ j) = false := by simp; omega
  rw [shN_ok he] at hR hn1
  rw [sh_len, ← LX.out] at hn1
  obtain ⟨bS, oS, rfl, hlS, hcS⟩ := hR (by rw [sh_len]; omega)
  have hjl : j < ls.length := by rw [← LX.out]; exact jn
  have hl := get_ly hjl
  obtain ⟨K, hK⟩ : ∃ K, K = atN ⟨c, h, x, ls⟩ (j : Int) := ⟨_, rfl⟩
  have hKe := hK.trans (at_some he hl)
  have g1 := sh_get ls ⟨c, h, x⟩ j (by omega)
  rw [show endS ⟨c, h, x⟩ (ls.take j) = K.i by rw [hKe]] at g1
  have g2 := sh_get ls ⟨c, h, x⟩ (j + 1) (by omega)
  rw [show endS ⟨c, h, x⟩ (ls.take (j + 1)) = K.u by rw [hKe, run_end c h x ls hl]] at g2
  obtain ⟨y0, y1, y2⟩ := sh_at hcS g1
  obtain ⟨a4, a5, a6⟩ := sh_at hcS g2
  obtain ⟨m, hm⟩ : ∃ m, m = j + 1 := ⟨_, rfl⟩
  rw [← hm] at a4 a5 a6
  have GD : Good K := by rw [hK]; exact good_at (isB_yes ⟨he, by omega, by show (j : Int) < (ls.length : Int); omega⟩)
  have ja : (0 : Int) ≤ (j : Int) := by omega
  have jb : (j : Int) < (n1 : Int) := by omega
  have ma : (0 : Int) ≤ (m : Int) := by omega
  have mb : (m : Int) < (n1 : Int) := by omega
  have jb' : j < n1 := by omega
  have mb' : m < n1 := by omega
  have v1 : IntKind.i64.wrap ((j : Int) + 1) = (m : Int) := next_i64 hm (Nat.lt_succ_self j) (by omega)
  have v2 : wrap64 ((j : Int) + 1) = (m : Int) := next_wrap hm (Nat.lt_succ_self j) (by omega)
  have PI := Lib.hid (psize K.i GD.2.1)
  have PS := Lib.hid (psize K.u GD.ur)
  have HK := Lib.hid hK; have HE := Lib.hid he; have HWN := Lib.hid hw
  obtain ⟨kn, hkn⟩ : ∃ kn, kn = K.i.n := ⟨_, rfl⟩
  have HKN := Lib.hid hkn
  have HGD := Lib.hid GD
  have un := size_bd K.u
  obtain ⟨ku, hku⟩ : ∃ ku : Nat, K.u.n = ku := ⟨K.u.n.toNat, by omega⟩
  have HKU := Lib.hid hku
  rw [← hkn] at PI
  rw [hku] at PS
  clear hK hKe g1 g2 hcS hl he hn1 hm hw hkn GD un hku
  go_wp2_with fail
  refine (PI.out _).mono ?_
  rintro e w4 ⟨rfl, hb4⟩
  have B4 := Lib.hid (chain B1.out hb4)
  have lN := Nat.lt_of_lt_of_le lN hb4.size
  have a0 := (hb4.cell (p := ⟨w.heap.size, 0, none⟩) N1.out.lt).trans a0
  have a1 := (hb4.cell (p := ⟨w.heap.size, 1, none⟩) N1.out.lt).trans a1
  have a2 := (hb4.cell (p := ⟨w.heap.size, 2, none⟩) N1.out.lt).trans a2
  have a3 := (hb4.cell (p := ⟨w.heap.size, 3, none⟩) N1.out.lt).trans a3
  have a4 := (hb4.cell (p := ⟨bS, oS + m * 3, none⟩) hlS).trans a4
  have a5 := (hb4.cell (p := ⟨bS, oS + m * 3 + 1, none⟩) hlS).trans a5
  have a6 := (hb4.cell (p := ⟨bS, oS + m * 3 + 2, none⟩) hlS).trans a6
  have hlS := Nat.lt_of_lt_of_le hlS hb4.size
  clear hb4 y0 y1 y2
  by_cases hxn : ¬ (nx : Int) = kn
  · have b0 : ((nx : Int) != kn) = true := by simpa using hxn
    obtain ⟨rfl, rfl⟩ := NO.out (decide_eq_false fun q => hxn (by rw [LXX.out, HKN.out, HK.out]; exact q.2.1))
    clear hxn a0 a1 a2 a3 a4 a5 a6
    go_wp2_with fail
    go_ret2
    exact ⟨none, 0, 0, rfl, rfl, Rg.nil _ _ _, B4.out, Nat.le_refl _, Nat.zero_le _⟩
  have hxn : (nx : Int) = kn := Decidable.not_not.1 hxn
  have b0 : ((nx : Int) != kn) = false := by rw [hxn]; simp
  have hok : okL ⟨c, h, x, ls⟩ (j : Int) xs ws = true := decide_eq_true ⟨⟨HE.out, by omega, by show (j : Int) < (ls.length : Int); rw [← LX.out]; omega⟩, by rw [← LXX.out, ← HK.out, ← HKN.out]; exact hxn, by rw [← LWW.out]; exact HWN.out⟩
  obtain rfl : r = true := HR.out.symm.trans hok
  obtain rfl : us = layK K xs ws := by rw [← HUS.out, HK.out]; exact lay_yes hok
  have TH : Hid (∀ w', Rl w' A ls → Rg ucells w' X xs → Rg ucells w' W ws → Calls Tryz.prog 74 #[.agg #[.int .i64 c, .int .i64 h, .int .i64 x, .slice A n cA], .int .i64 (j : Int), .int .i64 (ku : Int), .slice X nx cX, .slice W nw cW] w' (RowTo ucells (layK K xs ws) w')) := fun w' z1 z2 z3 =>
    through_any c h x A X W cA n cX nx cW nw ls xs ws j ku K w' z1 LX.out hn z2 LXX.out z3 LWW.out HE.out jn HK.out (by rw [hxn, HKN.out]) HWN.out HKU.out
  have HC0 : Hid (Below w4.heap.size w4 w4.drew) := below_drew w4
  clear hxn hok
  go_wp2_with fail
  have tok1 : True := trivial
  go_region_held3 (fun w' => w'.cell? ⟨w.heap.size, 0, none⟩ = some (.int .i64 c) ∧ w'.cell? ⟨w.heap.size, 1, none⟩ = some (.int .i64 h) ∧ w'.cell? ⟨w.heap.size, 2, none⟩ = some (.int .i64 x) ∧ w'.cell? ⟨w.heap.size, 3, none⟩ = some (.slice A n cA) ∧ w'.cell? ⟨bS, oS + m * 3, none⟩ = some (.int .i64 K.u.c) ∧ w'.cell? ⟨bS, oS + m * 3 + 1, none⟩ = some (.int .i64 K.u.h) ∧ w'.cell? ⟨bS, oS + m * 3 + 2, none⟩ = some (.int .i64 K.u.x))
    (first | exact ⟨q0, q1, q2, q3, q4, q5, q6⟩ | go_keep)
    (first
      | ((have _t := tok1; clear tok1; go_at_call 73; (with_reducible refine (PS.out _).mono ?_); rintro e w2 ⟨rfl, hb2⟩
          have HC1 := Lib.hid (HC0.out.trans (hb2.mono HC0.out.size))
          have q0 := (HC1.out.cell (p := ⟨w.heap.size, 0, none⟩) lN).trans a0
          have q1 := (HC1.out.cell (p := ⟨w.heap.size, 1, none⟩) lN).trans a1
          have q2 := (HC1.out.cell (p := ⟨w.heap.size, 2, none⟩) lN).trans a2
          have q3 := (HC1.out.cell (p := ⟨w.heap.size, 3, none⟩) lN).trans a3
          have q4 := (HC1.out.cell (p := ⟨bS, oS + m * 3, none⟩) hlS).trans a4
          have q5 := (HC1.out.cell (p := ⟨bS, oS + m * 3 + 1, none⟩) hlS).trans a5
          have q6 := (HC1.out.cell (p := ⟨bS, oS + m * 3 + 2, none⟩) hlS).trans a6
          have tok2 : True := trivial
          clear hb2))
      | ((have _t := tok2; clear tok2; go_at_call 74; (with_reducible refine (TH.out _ (HX.out.below (chain B4.out HC1.out)) (HXR.out.below (chain B4.out HC1.out)) (HWR.out.below (chain B4.out HC1.out))).mono ?_); rintro e w3 ⟨A3, k3, n3, rfl, h31, h32, hb3, h34, h35⟩
          have HC2 := Lib.hid (HC1.out.trans (hb3.mono HC1.out.size))
          have H31 := Lib.hid h31; have H32 := Lib.hid h32; have H34 := Lib.hid h34; have H35 := Lib.hid h35
          clear q0 q1 q2 q3 q4 q5 q6
          have q0 := (HC2.out.cell (p := ⟨w.heap.size, 0, none⟩) lN).trans a0
          have q1 := (HC2.out.cell (p := ⟨w.heap.size, 1, none⟩) lN).trans a1
          have q2 := (HC2.out.cell (p := ⟨w.heap.size, 2, none⟩) lN).trans a2
          have q3 := (HC2.out.cell (p := ⟨w.heap.size, 3, none⟩) lN).trans a3
          have q4 := (HC2.out.cell (p := ⟨bS, oS + m * 3, none⟩) hlS).trans a4
          have q5 := (HC2.out.cell (p := ⟨bS, oS + m * 3 + 1, none⟩) hlS).trans a5
          have q6 := (HC2.out.cell (p := ⟨bS, oS + m * 3 + 2, none⟩) hlS).trans a6
          clear hb3 h31 h32 h34 h35))
      | fail)
  go_wp2_with fail
  go_ret2
  exact ⟨A3, k3, n3, rfl, H31.out, H32.out, chain B4.out HC2.out, H34.out, H35.out⟩

end Go.Proofs.YtklgjhldebdegaaGreat

namespace Go.Proofs.YtklgjhldebdegaaGreat
open Go.RowKit

theorem u_news {w : World} {b off : Nat} {us : List UInt64} (h : ∀ j u, (us.flatMap ucells)[j]? = some u → w.cell? ⟨b, off + j, none⟩ = some u) : ∀ j u, (us.flatMap ucells)[j]? = some u → w.cell? ((⟨b, off, none⟩ : Addr).add j) = some u := fun j u hu => by
  have ha : (⟨b, off, none⟩ : Addr).add j = ⟨b, off + j, none⟩ := by unfold Addr.add; split <;> simp_all
  rw [ha]; exact h j u hu
theorem u_ones (us : List UInt64) : ∀ u ∈ us.flatMap ucells, u.oneCell' = true := fun u hu => by
  obtain ⟨x, _, hx⟩ := List.mem_flatMap.1 hu
  exact ucells_one x u hx
theorem slice_nil (b o n c : Nat) (w : World) : (binOp .eql 28 (.slice (some ⟨b, o, none⟩) n c) (.slice none 0 0)).run Tryz.prog w = .ok (.bool false) w := by kernel_rfl
theorem own_voidU {w : World} {B g : Nat} (h : w.heap[g]? = some (.cells #[] 27 (0, 0))) (hB : B ≤ g) : w.ownsRow B 27 1 (.slice (some ⟨g, 0, none⟩) 0 0) 0 [] :=
  ⟨by simp, .inr ⟨g, 0, #[], rfl, hB, h, Nat.le_refl _, Nat.zero_le _, by simp, by simp⟩⟩

set_option maxHeartbeats 1000000 in
set_option maxRecDepth 100000 in
theorem clone_any (X : Option Addr) (cX nx : Nat) (xs : List UInt64) (w : World) (hX : Rg ucells w X xs) (lx : nx = xs.length) (h0 : 0 < nx) (h1 : nx ≤ 100000) :
    Calls Tryz.prog 31 #[.slice X nx cX] w (RowTo ucells xs w) := by
  obtain ⟨i0, hi, hz0, hz1, hz2⟩ := info_parts Tryz.info27
  obtain ⟨b, o, rfl, lb, q⟩ := hX (by omega)
  have hnil := slice_nil b o nx cX
  have Q := Lib.hid q; have LX := Lib.hid lx
  clear hX q lx
  go_enter Tryz.func31, Tryz.ntmps31
  go_wp2_with (at_builtin; refine wpList_append_own_at _ rfl _ _ 28 rfl w.heap.size 27 i0 (.int .u64 0) 1 8 Tryz.underlying28 hi hz0 hz1 hz2 rfl (by decide) _ 0 [] rfl (own_voidU (heap_alloc_new w _) (Nat.le_refl _)) ⟨b, o, none⟩ nx cX (xs.flatMap ucells) rfl ?c0 ?c1 (u_ones xs) ?c3 ?c4 ?c5 ?_)
  case c0 => rw [flat_len ucells_len, LX.out]
  case c1 => exact u_news fun j u hu => (((Below.refl _ w).alloc (Nat.le_refl _) _).cell (p := ⟨b, o + j, none⟩) lb).trans (Q.out j u hu)
  case c3 => unfold maxLen; omega
  case c4 => omega
  case c5 => first | omega | simp
  intro v' w4 hown2 hgrow hd1 hd2
  obtain ⟨A', c', rfl, e1, e2, e3, e4⟩ := own_cap ucells_len (by decide) hown2
  have R := Lib.hid e2; have C3 := Lib.hid e3; have C4 := Lib.hid e4
  have B4 : Hid (Below w.heap.size w w4) := ((Below.refl _ w).alloc (Nat.le_refl _) _).grown hgrow (by simp) (fun q hq => by simp [Value.ownBlock] at hq; omega)
  clear hown2 hgrow hd1 hd2 e1 e2 e3 e4
  go_wp2_with fail
  go_ret
  exact ⟨A', c', nx, rfl, LX.out, R.out, B4.out, C3.out, C4.out⟩

end Go.Proofs.YtklgjhldebdegaaGreat

namespace Go.Proofs.YtklgjhldebdegaaGreat
open Go.RowKit
end Go.Proofs.YtklgjhldebdegaaGreat

namespace Go.Proofs.YtklgjhldebdegaaGreat
open Go.RowKit

/-- A slice's header. -/
structure Sl where
  a : Option Addr
  n : Nat
  c : Nat
def slcells (p : Sl) : List Value := [.slice p.a p.n p.c]
theorem slcells_len (p : Sl) : (slcells p).length = 1 := rfl
theorem sl_cell {w : World} {b off : Nat} {ps : List Sl} (h : ∀ j u, (ps.flatMap slcells)[j]? = some u → w.cell? ⟨b, off + j, none⟩ = some u) {k : Nat} {p : Sl} (hp : ps[k]? = some p) :
    w.cell? ⟨b, off + k, none⟩ = some (.slice p.a p.n p.c) := by
  have q := Rg.at slcells_len h hp
  have := q 0 _ rfl
  rw [Nat.mul_one, Nat.add_zero] at this
  exact this
def anyB (ps : List Sl) : Bool := ps.any fun p => decide (3000 < p.n)

/-! ### The fixed questions -/
def hl0 : List Ly := [⟨1, 1, 2, 1⟩, ⟨2, 0, 0, 0⟩, ⟨4, 2, 0, 0⟩]
def hl1 : List Ly := [⟨3, 0, 2, 0⟩]
def hx0 : List UInt64 := [1, 2, 3, 4]
def hx1 : List UInt64 := [1, 2, 3]
def hw0 : List UInt64 := [1, 0, 0, 2, 3, 18446744073709551615]
def hw1 : List UInt64 := [1, 0, 0, 2, 3, 5]
theorem hq0 : fN ⟨1, 2, 2, hl0⟩ hx0 hw0 = [243, 18446744073709551535] := by decide +kernel
theorem hq1 : layN ⟨1, 2, 2, hl0⟩ 0 hx0 hw1 = [9] := by decide +kernel
theorem hq2 : fN ⟨1, 2, 2, hl1⟩ hx0 [] = [10] := by decide +kernel
end Go.Proofs.YtklgjhldebdegaaGreat

namespace Go.Proofs.YtklgjhldebdegaaGreat
open Go.RowKit

theorem old_at {w : World} {o o' : Obj} {k : Nat} (h : w.heap[k]? = some o) : (w.alloc o').heap[k]? = some o := (Lib.alloc_old w o' k (Array.getElem?_eq_some_iff.1 h).1).trans h
theorem rl_blk {w : World} {g : Nat} {fr : Nat × Nat} {cs : Array Value} {T : Nat} {ls : List Ly} (h : w.heap[g]? = some (.cells cs T fr)) (e : cs.toList = ls.flatMap lycells) : Rl w (some ⟨g, 0, none⟩) ls := rl_of_rg (rg_block h e)

end Go.Proofs.YtklgjhldebdegaaGreat

namespace Go.Proofs.YtklgjhldebdegaaGreat
open Go.RowKit
end Go.Proofs.YtklgjhldebdegaaGreat

namespace Go.Proofs.YtklgjhldebdegaaGreat
open Go.RowKit

/-- A shape that lies in memory. -/
def Box (w : World) (b : Nat) (c h x : Int) : Prop :=
  b < w.heap.size ∧ w.cell? ⟨b, 0, none⟩ = some (.int .i64 c) ∧ w.cell? ⟨b, 1, none⟩ = some (.int .i64 h) ∧ w.cell? ⟨b, 2, none⟩ = some (.int .i64 x)
theorem Box.below {w w' : World} {b : Nat} {c h x : Int} (p : Box w b c h x) (hb : Below w.heap.size w w') : Box w' b c h x :=
  ⟨Nat.lt_of_lt_of_le p.1 hb.size, (hb.cell (p := ⟨b, 0, none⟩) p.1).trans p.2.1, (hb.cell (p := ⟨b, 1, none⟩) p.1).trans p.2.2.1, (hb.cell (p := ⟨b, 2, none⟩) p.1).trans p.2.2.2⟩
theorem Box.alloc {w : World} {b : Nat} {c h x : Int} (p : Box w b c h x) (o : Obj) : Box (w.alloc o) b c h x :=
  p.below ((Below.refl _ _).alloc (Nat.le_refl _) _)
theorem Box.new (w : World) (c h x : Int) : Box (w.alloc (.cells #[.int .i64 c, .int .i64 h, .int .i64 x] 23)) w.heap.size c h x :=
  ⟨by simp, by go_simp, by go_simp, by go_simp⟩
set_option maxHeartbeats 2000000 in
theorem rat_any (c h x k y z : Int) (w : World) :
    Calls Tryz.prog 84 #[.agg #[.int .i64 c, .int .i64 h, .int .i64 x], .int .i64 k, .int .i64 y, .int .i64 z] w fun e w' => e = .returned (.int .i64 (atI c h x k y z)) ∧ Below w.heap.size w w' := by
  cases r : rightB c h x
  · have HS := Lib.hid (atI_no (insideB_wrong (k := k) (y := y) (x := z) r))
    have HR := Lib.hid r; clear r
    go_enter Tryz.func84, Tryz.ntmps84
    go_wp2_with fail
    refine (rright_no c h x _ HR.out).mono ?_
    rintro e w1 ⟨rfl, hb1⟩
    have HB1 : Hid (Below w.heap.size w w1) := chain (by repeat first | exact Below.refl _ _ | refine chain_alloc ?_ _) hb1
    have X1 : Box w1 w.heap.size c h x := Box.below (Box.new _ _ _ _) hb1
    clear hb1
    obtain ⟨l1, c1, d1, f1⟩ := id X1
    go_wp2_with fail
    go_ret
    exact ⟨ret_int HS.out.symm, HB1.out⟩
  have HR := Lib.hid r
  by_cases p0 : k < 0
  · have HS : Hid (atI c h x k y z = -1) := atI_no (insideB_no (by omega))
    clear r
    go_enter Tryz.func84, Tryz.ntmps84
    go_wp2_with fail
    refine (rright_yes c h x _ HR.out).mono ?_
    rintro e w1 ⟨rfl, hb1⟩
    have HB1 : Hid (Below w.heap.size w w1) := chain (by repeat first | exact Below.refl _ _ | refine chain_alloc ?_ _) hb1
    have X1 : Box w1 w.heap.size c h x := Box.below (Box.new _ _ _ _) hb1
    clear hb1
    obtain ⟨l1, c1, d1, f1⟩ := id X1
    go_wp2_with fail
    go_ret
    exact ⟨ret_int HS.out.symm, HB1.out⟩
  replace p0 : 0 ≤ k := by omega
  by_cases p1 : c ≤ k
  · have HS : Hid (atI c h x k y z = -1) := atI_no (insideB_no (by omega))
    clear r
    go_enter Tryz.func84, Tryz.ntmps84
    go_wp2_with fail
    refine (rright_yes c h x _ HR.out).mono ?_
    rintro e w1 ⟨rfl, hb1⟩
    have HB1 : Hid (Below w.heap.size w w1) := chain (by repeat first | exact Below.refl _ _ | refine chain_alloc ?_ _) hb1
    have X1 : Box w1 w.heap.size c h x := Box.below (Box.new _ _ _ _) hb1
    clear hb1
    obtain ⟨l1, c1, d1, f1⟩ := id X1
    go_wp2_with fail
    go_ret
    exact ⟨ret_int HS.out.symm, HB1.out⟩
  replace p1 : k < c := by omega
  by_cases p2 : y < 0
  · have HS : Hid (atI c h x k y z = -1) := atI_no (insideB_no (by omega))
    clear r
    go_enter Tryz.func84, Tryz.ntmps84
    go_wp2_with fail
    refine (rright_yes c h x _ HR.out).mono ?_
    rintro e w1 ⟨rfl, hb1⟩
    have HB1 : Hid (Below w.heap.size w w1) := chain (by repeat first | exact Below.refl _ _ | refine chain_alloc ?_ _) hb1
    have X1 : Box w1 w.heap.size c h x := Box.below (Box.new _ _ _ _) hb1
    clear hb1
    obtain ⟨l1, c1, d1, f1⟩ := id X1
    go_wp2_with fail
    go_ret
    exact ⟨ret_int HS.out.symm, HB1.out⟩
  replace p2 : 0 ≤ y := by omega
  by_cases p3 : h ≤ y
  · have HS : Hid (atI c h x k y z = -1) := atI_no (insideB_no (by omega))
    clear r
    go_enter Tryz.func84, Tryz.ntmps84
    go_wp2_with fail
    refine (rright_yes c h x _ HR.out).mono ?_
    rintro e w1 ⟨rfl, hb1⟩
    have HB1 : Hid (Below w.heap.size w w1) := chain (by repeat first | exact Below.refl _ _ | refine chain_alloc ?_ _) hb1
    have X1 : Box w1 w.heap.size c h x := Box.below (Box.new _ _ _ _) hb1
    clear hb1
    obtain ⟨l1, c1, d1, f1⟩ := id X1
    go_wp2_with fail
    go_ret
    exact ⟨ret_int HS.out.symm, HB1.out⟩
  replace p3 : y < h := by omega
  by_cases p4 : z < 0
  · have HS : Hid (atI c h x k y z = -1) := atI_no (insideB_no (by omega))
    clear r
    go_enter Tryz.func84, Tryz.ntmps84
    go_wp2_with fail
    refine (rright_yes c h x _ HR.out).mono ?_
    rintro e w1 ⟨rfl, hb1⟩
    have HB1 : Hid (Below w.heap.size w w1) := chain (by repeat first | exact Below.refl _ _ | refine chain_alloc ?_ _) hb1
    have X1 : Box w1 w.heap.size c h x := Box.below (Box.new _ _ _ _) hb1
    clear hb1
    obtain ⟨l1, c1, d1, f1⟩ := id X1
    go_wp2_with fail
    go_ret
    exact ⟨ret_int HS.out.symm, HB1.out⟩
  replace p4 : 0 ≤ z := by omega
  by_cases p5 : x ≤ z
  · have HS : Hid (atI c h x k y z = -1) := atI_no (insideB_no (by omega))
    clear r
    go_enter Tryz.func84, Tryz.ntmps84
    go_wp2_with fail
    refine (rright_yes c h x _ HR.out).mono ?_
    rintro e w1 ⟨rfl, hb1⟩
    have HB1 : Hid (Below w.heap.size w w1) := chain (by repeat first | exact Below.refl _ _ | refine chain_alloc ?_ _) hb1
    have X1 : Box w1 w.heap.size c h x := Box.below (Box.new _ _ _ _) hb1
    clear hb1
    obtain ⟨l1, c1, d1, f1⟩ := id X1
    go_wp2_with fail
    go_ret
    exact ⟨ret_int HS.out.symm, HB1.out⟩
  replace p5 : z < x := by omega
  have s := insideB_yes r ⟨p0, p1, p2, p3, p4, p5⟩
  obtain ⟨b1, b2, b3, b4, b5, b6⟩ := at_small s
  obtain ⟨a1, a2, a3, a4, a5, a6, a7⟩ := rightB_out r
  have HS := Lib.hid (atI_yes s)
  clear s r
  go_enter Tryz.func84, Tryz.ntmps84
  go_wp2_with fail
  refine (rright_yes c h x _ HR.out).mono ?_
  rintro e w1 ⟨rfl, hb1⟩
  have HB1 : Hid (Below w.heap.size w w1) := chain (by repeat first | exact Below.refl _ _ | refine chain_alloc ?_ _) hb1
  have X1 : Box w1 w.heap.size c h x := Box.below (Box.new _ _ _ _) hb1
  clear hb1
  obtain ⟨l1, c1, d1, f1⟩ := id X1
  go_wp2_with fail
  go_ret
  exact ⟨ret_int HS.out.symm, HB1.out⟩

end Go.Proofs.YtklgjhldebdegaaGreat

namespace Go.Proofs.YtklgjhldebdegaaGreat
open Go.RowKit

/-- A number's channel, row and column are handed out. -/
def Told (c h x i : Int) (w : World) (e : Ending) (w' : World) : Prop :=
  e = .returned (.tuple #[.int .i64 (chI c h x i), .int .i64 (rowI c h x i), .int .i64 (colI c h x i), .bool (hasB c h x i)]) ∧ Below w.heap.size w w'
set_option maxHeartbeats 1000000 in
theorem rof_wrong (c h x i : Int) (w : World) (r : rightB c h x = false) :
    Calls Tryz.prog 83 #[.agg #[.int .i64 c, .int .i64 h, .int .i64 x], .int .i64 i] w (Told c h x i w) := by
  have n : hasB c h x i = false := hasB_no (by rw [sizeI_no r]; omega)
  have HS := Lib.hid (of_no n)
  have HN := Lib.hid n; clear n
  have HR := Lib.hid r; clear r
  have HB : Hid (Below w.heap.size w (w.alloc (.cells #[.int .i64 c, .int .i64 h, .int .i64 x] 23))) := (Below.refl _ _).alloc (Nat.le_refl _) _
  by_cases hc : 0 < c
  · go_enter Tryz.func83, Tryz.ntmps83
    go_wp2_with fail
    go_loopg [8] 1 (fun _ k wx => k = .int .i64 0 ∧ wx = w.alloc (.cells #[.int .i64 c, .int .i64 h, .int .i64 x] 23))
    case atStart => exact ⟨rfl, rfl⟩
    case round =>
      obtain ⟨rfl, rfl⟩ := hrel
      go_wp2_with fail
      refine (rright_no c h x _ HR.out).mono ?_
      rintro e w1 ⟨rfl, hb1⟩
      have HB1 : Hid (Below w.heap.size w w1) := chain HB.out hb1
      clear hb1
      go_wp2_with fail
      refine bodyPost_ret (four_out rfl _ _ _) rfl ?_
      exact ⟨ret_of ⟨HS.out.1.symm, HS.out.2.1.symm, HS.out.2.2.symm, HN.out.symm⟩, HB1.out⟩
  · have hc' : c ≤ 0 := by omega
    go_enter Tryz.func83, Tryz.ntmps83
    go_wp2_with fail
    go_loopg [8] 1 (fun _ k wx => k = .int .i64 0 ∧ wx = w.alloc (.cells #[.int .i64 c, .int .i64 h, .int .i64 x] 23))
    case atStart => exact ⟨rfl, rfl⟩
    case round =>
      obtain ⟨rfl, rfl⟩ := hrel
      go_wp2_with fail
      refine bodyPost_ret (four_out rfl _ _ _) rfl ?_
      exact ⟨ret_of ⟨HS.out.1.symm, HS.out.2.1.symm, HS.out.2.2.symm, HN.out.symm⟩, HB.out⟩
/-- No place below p is i. -/
def Past (i p : Int) : Prop := ¬ (0 ≤ i ∧ i < p)
theorem rat_in (c h x k y z : Int) (p : Int) (e : insideB c h x k y z = true) (f : p = (k * h + y) * x + z) (w : World) :
    Calls Tryz.prog 84 #[.agg #[.int .i64 c, .int .i64 h, .int .i64 x], .int .i64 k, .int .i64 y, .int .i64 z] w fun e w' => e = .returned (.int .i64 p) ∧ Below w.heap.size w w' := by
  have := rat_any c h x k y z w
  rwa [atI_yes e, ← f] at this
set_option maxHeartbeats 2000000 in
theorem rof_right (c h x i : Int) (w : World) (r : rightB c h x = true) :
    Calls Tryz.prog 83 #[.agg #[.int .i64 c, .int .i64 h, .int .i64 x], .int .i64 i] w (Told c h x i w) := by
  obtain ⟨a1, a2, a3, a4, a5, a6, a7⟩ := rightB_out r
  have HR := Lib.hid r; clear r
  have HB : Hid (Below w.heap.size w (w.alloc (.cells #[.int .i64 c, .int .i64 h, .int .i64 x] 23))) := (Below.refl _ _).alloc (Nat.le_refl _) _
  go_enter Tryz.func83, Tryz.ntmps83
  go_wp2_with fail
  go_loopg [8] c.toNat (fun g s8 wx => ∃ k : Int, 0 ≤ k ∧ k ≤ c ∧ Hid (g = (c - k).toNat) ∧ s8 = .int .i64 k ∧ Past i (k * h * x) ∧ Hid (Below w.heap.size w wx) ∧ Box wx w.heap.size c h x)
  case atStart => exact ⟨0, by omega, by omega, by show _ = _; omega, rfl, by unfold Past; rw [Int.zero_mul, Int.zero_mul]; omega, HB, Box.new _ _ _ _⟩
  case round =>
    obtain ⟨k, k0, k1, HG, rfl, hp, HBk, X⟩ := hrel
    obtain ⟨l1, c1, d1, f1⟩ := id X
    by_cases kc : k < c
    · go_wp2_with fail
      refine (rright_yes c h x _ HR.out).mono ?_
      rintro e w1 ⟨rfl, hb1⟩
      have HB1 : Hid (Below w.heap.size w w1) := chain HBk.out hb1
      have X1 : Box w1 w.heap.size c h x := X.below hb1
      clear hb1 HBk X l1 c1 d1 f1
      go_wp2_with fail
      go_loopg [9] h.toNat (fun g s9 wx => ∃ y : Int, 0 ≤ y ∧ y ≤ h ∧ Hid (g = (h - y).toNat) ∧ s9 = .int .i64 y ∧ Past i ((k * h + y) * x) ∧ Hid (Below w.heap.size w wx) ∧ Box wx w.heap.size c h x)
      case atStart => exact ⟨0, by omega, by omega, by show _ = _; omega, rfl, by rw [Int.add_zero]; exact hp, HB1, X1⟩
      case round =>
        obtain ⟨y, y0, y1, HG1, rfl, hp1, HBy, Xy⟩ := hrel
        obtain ⟨l1, c1, d1, f1⟩ := id Xy
        by_cases yh : y < h
        · go_wp2_with fail
          go_loopg [10] x.toNat (fun g s10 wx => ∃ z : Int, 0 ≤ z ∧ z ≤ x ∧ Hid (g = (x - z).toNat) ∧ s10 = .int .i64 z ∧ Past i ((k * h + y) * x + z) ∧ Hid (Below w.heap.size w wx) ∧ Box wx w.heap.size c h x)
          case atStart => exact ⟨0, by omega, by omega, by show _ = _; omega, rfl, by rw [Int.add_zero]; exact hp1, HBy, Xy⟩
          case round =>
            obtain ⟨z, z0, z1, HG2, rfl, hp2, HBz, Xz⟩ := hrel
            obtain ⟨l2, c2, d2, f2⟩ := id Xz
            clear l1 c1 d1 f1
            by_cases zx : z < x
            · have HI : Hid (insideB c h x k y z = true) := insideB_yes HR.out ⟨k0, kc, y0, yh, z0, zx⟩
              obtain ⟨p, HP⟩ : ∃ p : Int, Hid (p = (k * h + y) * x + z) := ⟨_, rfl⟩
              by_cases hpi : p = i
              · have hpe : (p == i) = true := by rw [hpi]; simp
                have HPI := Lib.hid hpi; clear hpi
                go_wp2_with fail
                refine (rat_in c h x k y z p HI.out HP.out _).mono ?_
                rintro e w2 ⟨rfl, hb2⟩
                have HB2 : Hid (Below w.heap.size w w2) := chain HBz.out hb2
                clear hb2
                go_wp2_with fail
                refine bodyPost_ret (four_out rfl _ _ _) rfl ?_
                have q := at_of HI.out
                rw [← HP.out, HPI.out] at q
                have q2 := of_yes q.1
                exact ⟨ret_of ⟨by rw [q2.1]; exact q.2.1.symm, by rw [q2.2.1]; exact q.2.2.1.symm, by rw [q2.2.2]; exact q.2.2.2.symm, q.1.symm⟩, HB2.out⟩
              · have hpe : (p == i) = false := by simpa using hpi
                have HPI := Lib.hid hpi; clear hpi
                go_wp2_with fail
                refine (rat_in c h x k y z p HI.out HP.out _).mono ?_
                rintro e w2 ⟨rfl, hb2⟩
                have HB2 : Hid (Below w.heap.size w w2) := chain HBz.out hb2
                have X2 : Box w2 w.heap.size c h x := Xz.below hb2
                clear hb2
                go_wp2_with fail
                go_roundg (x - (z + 1)).toNat
                case measure => have := HG2.out; omega
                case rel => exact ⟨z + 1, by omega, by omega, rfl, rfl, by have := HP.out; have := HPI.out; unfold Past at hp2 ⊢; omega, HB2, X2⟩
            · have hzx : z = x := by omega
              have HZ := Lib.hid hzx; clear hzx
              go_wp2_with fail
              go_roundg (h - (y + 1)).toNat
              case measure => have := HG1.out; omega
              case rel =>
                refine ⟨y + 1, by omega, by omega, rfl, rfl, ?_, HBz, Xz⟩
                have e : (k * h + (y + 1)) * x = (k * h + y) * x + x := by rw [← Int.add_assoc, Int.add_mul (k * h + y) 1 x, Int.one_mul]
                rw [e]
                rw [HZ.out] at hp2
                exact hp2
        · have hyh : y = h := by omega
          have HY := Lib.hid hyh; clear hyh
          go_wp2_with fail
          go_roundg (c - (k + 1)).toNat
          case measure => have := HG.out; omega
          case rel =>
            refine ⟨k + 1, by omega, by omega, rfl, rfl, ?_, HBy, Xy⟩
            have e : (k + 1) * h = k * h + h := by rw [Int.add_mul, Int.one_mul]
            rw [e]
            rw [HY.out] at hp1
            exact hp1
    · have hkc : k = c := by omega
      have n : hasB c h x i = false := hasB_no (by rw [sizeI_yes HR.out, ← hkc]; exact hp)
      have HS := Lib.hid (of_no n)
      have HN := Lib.hid n
      clear n hkc
      go_wp2_with fail
      refine bodyPost_ret (four_out rfl _ _ _) rfl ?_
      exact ⟨ret_of ⟨HS.out.1.symm, HS.out.2.1.symm, HS.out.2.2.symm, HN.out.symm⟩, HBk.out⟩
theorem rof_any (c h x i : Int) (w : World) :
    Calls Tryz.prog 83 #[.agg #[.int .i64 c, .int .i64 h, .int .i64 x], .int .i64 i] w (Told c h x i w) := by
  cases r : rightB c h x
  · exact rof_wrong c h x i w r
  · exact rof_right c h x i w r

end Go.Proofs.YtklgjhldebdegaaGreat

namespace Go.Proofs.YtklgjhldebdegaaGreat
open Go.RowKit

theorem LB.new (w : World) (l : Ly) : LB (w.alloc (.cells #[.int .i64 l.k, .int .i64 l.o, .int .i64 l.s, .int .i64 l.t] 53)) w.heap.size l := heap_alloc_new w _
theorem SB.alloc {w : World} {b : Nat} {s : Sh} (H : SB w b s) (o : Obj) : SB (w.alloc o) b s := (Lib.alloc_old w o b H.lt).trans H

/-- How things stand in the document's conv. -/
def CJ (w0 : World) (s : Sh) (l : Ly) (a : Int) (xs : List Int) (v : Value) (w : World) : Prop :=
  w.ownsRow (w0.heap.size + 3) 82 2 v xs.length ((seqT a xs).flatMap tcells) ∧ SB w w0.heap.size s ∧ LB w (w0.heap.size + 1 + 1) l ∧ Below w0.heap.size w0 w

set_option maxHeartbeats 8000000 in
set_option maxRecDepth 100000 in
theorem rconv6_any (s u : Sh) (l : Ly) (m cn : Nat) (f p : Int) (w : World) (hp : hasB u.c u.h u.x p = true) (hur : u.r = true) (hm : l.s = (m : Int)) (hm1 : m ≤ 12) (hcn : s.c = (cn : Int)) (hc1 : cn ≤ 8) (ht0 : 0 ≤ l.t) (ht1 : l.t ≤ 12) (f0 : 0 ≤ f) (f1 : f ≤ 512) :
    Calls Tryz.prog 65 #[.agg #[.int .i64 s.c, .int .i64 s.h, .int .i64 s.x], .agg #[.int .i64 u.c, .int .i64 u.h, .int .i64 u.x], .agg #[.int .i64 l.k, .int .i64 l.o, .int .i64 l.s, .int .i64 l.t], .int .i64 f, .int .i64 p] w (RowNew tcells (seqT (f + chI u.c u.h u.x p * s.c * l.s * l.s) (chanL s (rowI u.c u.h u.x p * l.t) (colI u.c u.h u.x p * l.t) m cn)) w) := by
  obtain ⟨i0, hi, hz0, hz1, hz2⟩ := info_parts Tryz.info82
  obtain ⟨⟨ch0, ch1⟩, ⟨ro0, ro1⟩, ⟨co0, co1⟩⟩ := of_bd (s := u) hp
  obtain ⟨u1, u2, u3, u4, u5, u6, _⟩ := right_bd hur
  obtain ⟨o, ho⟩ : ∃ o, chI u.c u.h u.x p = o := ⟨_, rfl⟩
  obtain ⟨y, hy⟩ : ∃ y, rowI u.c u.h u.x p = y := ⟨_, rfl⟩
  obtain ⟨x, hx⟩ : ∃ x, colI u.c u.h u.x p = x := ⟨_, rfl⟩
  rw [ho] at ch0 ch1
  rw [hy] at ro0 ro1
  rw [hx] at co0 co1
  have KO : Hid (∀ w, Calls Tryz.prog 83 #[.agg #[.int .i64 u.c, .int .i64 u.h, .int .i64 u.x], .int .i64 p] w fun e w' => e = .returned (.tuple #[.int .i64 o, .int .i64 y, .int .i64 x, .bool true]) ∧ Below w.heap.size w w') := fun w => by
    refine (rof_any u.c u.h u.x p w).mono ?_
    rintro e w' ⟨he, hb⟩
    rw [ho, hy, hx, hp] at he
    exact ⟨he, hb⟩
  rw [ho, hy, hx]
  have o8 : o ≤ 8 := by omega
  have y12 : y ≤ 11 := by omega
  have x12 : x ≤ 11 := by omega
  clear ho hy hx ch1 ro1 co1 u1 u2 u3 u4 u5 u6 hp hur
  obtain ⟨a, ha⟩ : ∃ a, a = f + o * s.c * l.s * l.s := ⟨_, rfl⟩
  obtain ⟨yt, hyt⟩ : ∃ yt, yt = y * l.t := ⟨_, rfl⟩
  obtain ⟨xt, hxt⟩ : ∃ xt, xt = x * l.t := ⟨_, rfl⟩
  have yb := mul_bd ro0 y12 ht0 ht1
  have xb := mul_bd co0 x12 ht0 ht1
  rw [← hyt] at yb
  rw [← hxt] at xb
  rw [← ha, ← hyt, ← hxt]
  have HYT := Lib.hid hyt; have HXT := Lib.hid hxt
  have HAE : Hid (a = f + o * (cn : Int) * (m : Int) * (m : Int)) := by rw [ha, hm, hcn]; exact rfl
  have HM := Lib.hid hm; have HCN := Lib.hid hcn
  clear ha hyt hxt hm hcn
  obtain ⟨W, hW⟩ : ∃ W, W = ((w.alloc (.cells #[.int .i64 s.c, .int .i64 s.h, .int .i64 s.x] 23)).alloc (.cells #[.int .i64 u.c, .int .i64 u.h, .int .i64 u.x] 23)).alloc (.cells #[.int .i64 l.k, .int .i64 l.o, .int .i64 l.s, .int .i64 l.t] 53) := ⟨_, rfl⟩
  have J0 : Hid (CJ w s l a [] (.slice none 0 0) W) := by
    rw [hW]
    refine ⟨⟨rfl, .inl ⟨rfl, rfl⟩⟩, ((SB.new w s).alloc _).alloc _, ?_, below_threeB w _ _ _⟩
    have := LB.new (((w.alloc (.cells #[.int .i64 s.c, .int .i64 s.h, .int .i64 s.x] 23)).alloc (.cells #[.int .i64 u.c, .int .i64 u.h, .int .i64 u.x] 23))) l
    rwa [show ((w.alloc _).alloc _).heap.size = w.heap.size + 1 + 1 by simp] at this
  have hWz : W.heap.size = w.heap.size + 3 := by rw [hW]; simp
  go_enter Tryz.func65, Tryz.ntmps65
  go_wp2_with fail
  rw [← hW]
  clear hW
  refine (KO.out _).mono ?_
  rintro e w1 ⟨rfl, hb⟩
  have J1 : Hid (CJ w s l a [] (.slice none 0 0) w1) := ⟨own_belowE J0.out.1 hb, J0.out.2.1.below hb, J0.out.2.2.1.below hb, chain J0.out.2.2.2 hb⟩
  have hz1s : w.heap.size + 3 ≤ w1.heap.size := by have := hb.size; omega
  clear hb J0 hWz
  go_wp2_with fail
  go_loopg [15, 16, 17, 18] cn (fun g v s16 _ _ wx => ∃ c : Nat, c ≤ cn ∧ Hid (g = cn - c) ∧ s16 = .int .i64 (c : Int) ∧ Hid (CJ w s l a (chanL s yt xt m c) v wx) ∧ w.heap.size + 3 ≤ wx.heap.size)
  case atStart => exact ⟨0, by omega, by show _ = _; omega, rfl, by show CJ _ _ _ _ _ _ _; simpa [chanL] using J1.out, hz1s⟩
  case round =>
    obtain ⟨c, hc, HG, rfl, JC, hzc⟩ := hrel
    obtain ⟨_, hS, hL, _⟩ := JC.out
    obtain ⟨s0, s1, s2⟩ := hS.cells
    obtain ⟨l0, l1, l2, l3⟩ := hL.cells
    clear hS hL
    by_cases cc : c < cn
    · have d1 : decide ((c : Int) < s.c) = true := decide_eq_true (by rw [HCN.out]; omega)
      have d1' : (c : Int) < s.c := by rw [HCN.out]; omega
      go_wp2_with fail
      go_loopg [15, 17, 18] m (fun g v s17 _ wx => ∃ r : Nat, r ≤ m ∧ Hid (g = m - r) ∧ s17 = .int .i64 (r : Int) ∧ Hid (CJ w s l a (chanL s yt xt m c ++ winR s c yt xt m r) v wx) ∧ w.heap.size + 3 ≤ wx.heap.size)
      case atStart => exact ⟨0, by omega, by show _ = _; omega, rfl, by show CJ _ _ _ _ _ _ _; simpa [winR] using JC.out, hzc⟩
      case round =>
        obtain ⟨r, hr, HG2, rfl, JR, hzr⟩ := hrel
        clear s0 s1 s2 l0 l1 l2 l3
        obtain ⟨_, hS, hL, _⟩ := JR.out
        obtain ⟨s0, s1, s2⟩ := hS.cells
        obtain ⟨l0, l1, l2, l3⟩ := hL.cells
        clear hS hL
        by_cases rm : r < m
        · have d2 : (r : Int) < l.s := by rw [HM.out]; omega
          go_wp2_with fail
          go_loopg [15, 18] m (fun g v s18 wx => ∃ k : Nat, k ≤ m ∧ Hid (g = m - k) ∧ s18 = .int .i64 (k : Int) ∧ Hid (CJ w s l a ((chanL s yt xt m c ++ winR s c yt xt m r) ++ rowL s c (yt + (r : Nat)) xt k) v wx) ∧ w.heap.size + 3 ≤ wx.heap.size)
          case atStart => exact ⟨0, by omega, by show _ = _; omega, rfl, by show CJ _ _ _ _ _ _ _; simpa [rowL] using JR.out, hzr⟩
          case round =>
            obtain ⟨k, hk, HG3, rfl, JK, hzk⟩ := hrel
            clear s0 s1 s2 l0 l1 l2 l3
            obtain ⟨hO, hS, hL, hB⟩ := JK.out
            obtain ⟨s0, s1, s2⟩ := hS.cells
            obtain ⟨l0, l1, l2, l3⟩ := hL.cells
            have ls := hS.lt
            have ll := hL.lt
            by_cases km : k < m
            · have d3 : (k : Int) < l.s := by rw [HM.out]; omega
              obtain ⟨xs, hxs⟩ : ∃ xs, xs = (chanL s yt xt m c ++ winR s c yt xt m r) ++ rowL s c (yt + (r : Nat)) xt k := ⟨_, rfl⟩
              rw [← hxs] at hO
              have hlen : xs.length = c * (m * m) + r * m + k := by rw [hxs, List.length_append, List.length_append, chan_len, win_len, row_len]
              have hb1 : c * (m * m) ≤ 7 * (12 * 12) := Nat.mul_le_mul (by omega) (Nat.mul_le_mul hm1 hm1)
              have hb2 : r * m ≤ 11 * 12 := Nat.mul_le_mul (by omega) hm1
              have hlb : xs.length ≤ 1200 := by omega
              have sc0 : 0 ≤ s.c ∧ s.c ≤ 8 := by rw [HCN.out]; omega
              have sl0 : 0 ≤ l.s ∧ l.s ≤ 12 := by rw [HM.out]; omega
              obtain ⟨m1, e1⟩ : ∃ m1, m1 = o * s.c := ⟨_, rfl⟩
              have g1 := mul_bd ch0 o8 sc0.1 sc0.2
              rw [← e1] at g1
              obtain ⟨m2, e2⟩ : ∃ m2, m2 = m1 + (c : Int) := ⟨_, rfl⟩
              obtain ⟨m3, e3⟩ : ∃ m3, m3 = m2 * l.s := ⟨_, rfl⟩
              have g3 := mul_bd (show 0 ≤ m2 by omega) (show m2 ≤ 72 by omega) sl0.1 sl0.2
              rw [← e3] at g3
              obtain ⟨m4, e4⟩ : ∃ m4, m4 = m3 + (r : Int) := ⟨_, rfl⟩
              obtain ⟨m5, e5⟩ : ∃ m5, m5 = m4 * l.s := ⟨_, rfl⟩
              have g5 := mul_bd (show 0 ≤ m4 by omega) (show m4 ≤ 876 by omega) sl0.1 sl0.2
              rw [← e5] at g5
              obtain ⟨m6, e6⟩ : ∃ m6, m6 = f + m5 := ⟨_, rfl⟩
              obtain ⟨m7, e7⟩ : ∃ m7, m7 = m6 + (k : Int) := ⟨_, rfl⟩
              obtain ⟨y2, e8⟩ : ∃ y2, y2 = yt + (r : Int) := ⟨_, rfl⟩
              obtain ⟨x2, e9⟩ : ∃ x2, x2 = xt + (k : Int) := ⟨_, rfl⟩
              obtain ⟨z, hz⟩ : ∃ z, atI s.c s.h s.x c y2 x2 = z := ⟨_, rfl⟩
              have EQ7 : Hid (m7 = a + (xs.length : Nat)) := by
                show _ = _
                rw [e7, e6, e5, e4, e3, e2, e1, HAE.out, hlen, HCN.out, HM.out, Int.natCast_add, Int.natCast_add, Int.natCast_mul, Int.natCast_mul, Int.natCast_mul, Int.add_mul, Int.add_mul, Int.add_mul, Int.mul_assoc (c : Int)]
                omega
              have XS1 : Hid (chanL s yt xt m c ++ winR s c yt xt m r ++ rowL s c (yt + (r : Nat)) xt (k + 1) = xs ++ [z]) := by
                show _ = _
                rw [row_next, ← List.append_assoc, ← hxs, ← hz, e8, e9]
              have KA : Hid (∀ w, Calls Tryz.prog 84 #[.agg #[.int .i64 s.c, .int .i64 s.h, .int .i64 s.x], .int .i64 (c : Int), .int .i64 y2, .int .i64 x2] w fun e w' => e = .returned (.int .i64 z) ∧ Below w.heap.size w w') := fun w => by
                rw [← hz]; exact rat_any s.c s.h s.x c y2 x2 w
              have V1 : IntKind.i64.wrap (o * s.c) = m1 := by rw [IntWalk.i64_in _ (by omega)]; exact e1.symm
              have V2 : IntKind.i64.wrap (m1 + (c : Int)) = m2 := by rw [IntWalk.i64_in _ (by omega)]; exact e2.symm
              have V3 : IntKind.i64.wrap (m2 * l.s) = m3 := by rw [IntWalk.i64_in _ (by omega)]; exact e3.symm
              have V4 : IntKind.i64.wrap (m3 + (r : Int)) = m4 := by rw [IntWalk.i64_in _ (by omega)]; exact e4.symm
              have V5 : IntKind.i64.wrap (m4 * l.s) = m5 := by rw [IntWalk.i64_in _ (by omega)]; exact e5.symm
              have V6 : IntKind.i64.wrap (f + m5) = m6 := by rw [IntWalk.i64_in _ (by omega)]; exact e6.symm
              have V7 : IntKind.i64.wrap (m6 + (k : Int)) = m7 := by rw [IntWalk.i64_in _ (by omega)]; exact e7.symm
              have VY : IntKind.i64.wrap (y * l.t) = yt := by rw [← HYT.out, IntWalk.i64_in _ (by omega)]
              have VX : IntKind.i64.wrap (x * l.t) = xt := by rw [← HXT.out, IntWalk.i64_in _ (by omega)]
              have V8 : IntKind.i64.wrap (yt + (r : Int)) = y2 := by rw [IntWalk.i64_in _ (by omega)]; exact e8.symm
              have V9 : IntKind.i64.wrap (xt + (k : Int)) = x2 := by rw [IntWalk.i64_in _ (by omega)]; exact e9.symm
              have A1 : Hid (u15.ownBlock ≠ some w.heap.size) := fun h => absurd (hO.lt _ h).1 (by omega)
              have A2 : Hid (u15.ownBlock ≠ some (w.heap.size + 1 + 1)) := fun h => absurd (hO.lt _ h).1 (by omega)
              have HO := Lib.hid hO; have HS := Lib.hid hS; have HL := Lib.hid hL; have HB := Lib.hid hB
              clear hO hS hL hB hxs hlen hb1 hb2 e1 e2 e3 e4 e5 e6 e7 e8 e9 hz g1 g3 g5 sc0 sl0
              go_wp2_with fail
              have HC0 : Hid (Below wr.heap.size wr wr.drew) := below_drew wr
              have tok1 : True := trivial
              go_region_held3 (fun w' => w'.cell? ⟨w.heap.size, 0, none⟩ = some (.int .i64 s.c) ∧ w'.cell? ⟨w.heap.size, 1, none⟩ = some (.int .i64 s.h) ∧ w'.cell? ⟨w.heap.size, 2, none⟩ = some (.int .i64 s.x) ∧ w'.cell? ⟨w.heap.size + 1 + 1, 2, none⟩ = some (.int .i64 l.s) ∧ w'.cell? ⟨w.heap.size + 1 + 1, 3, none⟩ = some (.int .i64 l.t))
                (first
                  | exact ⟨q0, q1, q2, q3, q4⟩
                  | go_keep
                  | (go_split_ands
                     refine ⟨?_, ?_, ?_, ?_, ?_⟩
                     · (rw [hgrow.cell_far _ (by simp; omega) (Ne.symm A1.out)]; first | assumption | go_keep)
                     · (rw [hgrow.cell_far _ (by simp; omega) (Ne.symm A1.out)]; first | assumption | go_keep)
                     · (rw [hgrow.cell_far _ (by simp; omega) (Ne.symm A1.out)]; first | assumption | go_keep)
                     · (rw [hgrow.cell_far _ (by simp; omega) (Ne.symm A2.out)]; first | assumption | go_keep)
                     · (rw [hgrow.cell_far _ (by simp; omega) (Ne.symm A2.out)]; first | assumption | go_keep)
                    ))
                (first
                  | ((have _t := tok1; clear tok1; go_at_call 84; (with_reducible refine (KA.out _).mono ?_); rintro e w2 ⟨rfl, hb2⟩
                      have HC1 := Lib.hid (HC0.out.trans (hb2.mono HC0.out.size))
                      have zz := HC1.out.size
                      have q0 := (HC1.out.cell (p := ⟨w.heap.size, 0, none⟩) ls).trans s0
                      have q1 := (HC1.out.cell (p := ⟨w.heap.size, 1, none⟩) ls).trans s1
                      have q2 := (HC1.out.cell (p := ⟨w.heap.size, 2, none⟩) ls).trans s2
                      have q3 := (HC1.out.cell (p := ⟨w.heap.size + 1 + 1, 2, none⟩) ll).trans l2
                      have q4 := (HC1.out.cell (p := ⟨w.heap.size + 1 + 1, 3, none⟩) ll).trans l3
                      have O2 := Lib.hid (own_belowE HO.out HC1.out)
                      clear hb2))
                  | ((refine step_append_lies _ (by rfl) _ _ _ (by rfl) (w.heap.size + 3) 82 i0 _ 2 16 Tryz.underlying79 hi hz0 hz1 hz2 rfl (by omega) u15 xs.length ((seqT a xs).flatMap tcells) (by rfl) (O2.out.alloc _) ⟨w2.heap.size, 0, none⟩ 1 1 (tcells ⟨z, m7⟩) (by rfl) (by rfl) (World.news_of_block (cs := #[.int .i64 z, .int .i64 m7]) (t := 82) (fr := (0, 0)) (heap_alloc_new w2 _)) (tcells_one _) (by omega) (by unfold maxLen; omega) (by omega) (by simp; omega) (w2.heap.size + 1) (by simp) ?_; intro gg cap w3 hown2 hgrow hat hlt2))
                  | fail)
              have J3 : Hid (CJ w s l a ((chanL s yt xt m c ++ winR s c yt xt m r) ++ rowL s c (yt + (r : Nat)) xt (k + 1)) (.slice (some ⟨gg, 0, none⟩) (xs.length + 1) cap) w3) := by
                show CJ _ _ _ _ _ _ _
                rw [XS1.out]
                refine ⟨?_, ?_, ?_, ?_⟩
                · rw [seq_snoc, ← EQ7.out, List.flatMap_append, List.length_append]
                  simpa using hown2
                · exact (hgrow.block _ (by simp; omega) (Ne.symm A1.out)).trans ((Lib.alloc_old _ _ _ (by omega)).trans ((HC1.out.block _ ls).trans HS.out))
                · exact (hgrow.block _ (by simp; omega) (Ne.symm A2.out)).trans ((Lib.alloc_old _ _ _ (by omega)).trans ((HC1.out.block _ ll).trans HL.out))
                · exact (chain_alloc (chain HB.out HC1.out) _).grown hgrow (by simp; have := (chain HB.out HC1.out).size; omega) (fun q hqq => by have := (HO.out.lt _ hqq).1; omega)
              have hz3 : w.heap.size + 3 ≤ w3.heap.size := by have h1 := hgrow.size; simp at h1; omega
              clear hown2 hgrow hat hlt2 q0 q1 q2 q3 q4 V1 V2 V3 V4 V5 V6 V7 V8 V9 VX VY s0 s1 s2 l0 l1 l2 l3
              go_wp2_with fail
              go_roundg (m - (k + 1))
              case measure => have := HG3.out; omega
              case rel => exact ⟨k + 1, by omega, rfl, by go_num, J3, hz3⟩
            · obtain rfl : k = m := by omega
              have d3 : ¬ (k : Int) < l.s := by rw [HM.out]; omega
              have hJ2 := JK.out
              rw [List.append_assoc, ← win_next] at hJ2
              have J2 := Lib.hid hJ2
              clear hJ2 hO hS hL hB
              go_wp2_with fail
              go_roundg (k - (r + 1))
              case measure => have := HG2.out; omega
              case rel => exact ⟨r + 1, by omega, rfl, by go_num, J2, hzk⟩
        · obtain rfl : r = m := by omega
          have d2 : ¬ (r : Int) < l.s := by rw [HM.out]; omega
          have hJ2 := JR.out
          rw [show winR s c yt xt r r = winL s c yt xt r from rfl, ← chan_next] at hJ2
          have J2 := Lib.hid hJ2
          clear hJ2
          go_wp2_with fail
          go_roundg (cn - (c + 1))
          case measure => have := HG.out; omega
          case rel => exact ⟨c + 1, by omega, rfl, by go_num, J2, hzr⟩
    · obtain rfl : c = cn := by omega
      have d1 : decide ((c : Int) < s.c) = false := decide_eq_false (by rw [HCN.out]; omega)
      obtain ⟨hO, _, _, hB⟩ := JC.out
      obtain ⟨A2, c2, hv, hd1, hd2, hd3, hd4⟩ := own_cap tcells_len (by decide) hO
      subst hv
      have NEW : Hid (∀ a, A2 = some a → w.heap.size ≤ a.block) := fun a ha => by have := own_new hO a ha; omega
      have D1 := Lib.hid hd1; have D2 := Lib.hid hd2; have D3 := Lib.hid hd3; have D4 := Lib.hid hd4; have BB := Lib.hid hB
      clear hO hB hd1 hd2 hd3 hd4
      go_wp2_with fail
      go_ret
      exact ⟨A2, c2, _, rfl, D1.out, D2.out, BB.out, D3.out, D4.out, NEW.out⟩

end Go.Proofs.YtklgjhldebdegaaGreat

namespace Go.Proofs.YtklgjhldebdegaaGreat
open Go.RowKit

set_option maxHeartbeats 8000000 in
set_option maxRecDepth 100000 in
theorem rterms_new (c h x : Int) (A : Option Addr) (cA n : Nat) (ls : List Ly) (i p : Int) (w : World) (hx : Rl w A ls) (ln : n = ls.length) (hn : n ≤ 1000) :
    Calls Tryz.prog 47 #[.agg #[.int .i64 c, .int .i64 h, .int .i64 x, .slice A n cA], .int .i64 i, .int .i64 p] w (RowNew tcells (termsN ⟨c, h, x, ls⟩ i p) w) := by
  obtain ⟨it, hit, hy0, hy1, hy2⟩ := info_parts Tryz.info82
  have HX := Lib.hid hx; have LX := Lib.hid ln
  clear hx ln
  obtain ⟨er, her⟩ : ∃ er, er = errN ⟨c, h, x, ls⟩ := ⟨_, rfl⟩
  have HER := Lib.hid her
  clear her
  go_enter Tryz.func47, Tryz.ntmps47
  go_wp2_with fail
  refine (rshapes_any c h x A cA n ls _ (HX.out.below ((Below.refl _ w).alloc (Nat.le_refl _) _)) LX.out hn).mono ?_
  rintro e w1 ⟨A1, k1, n1, rfl, hn1, hR, hb, hd1, hd2⟩
  have B1 := Lib.hid (chain ((Below.refl w.heap.size w).alloc (Nat.le_refl _) _) hb)
  have N1 := Lib.hid ((NB.new w c h x (.slice A n cA)).below hb)
  obtain ⟨c0, c1, c2, c3⟩ := N1.out.cells
  clear hb hd1 hd2
  rw [← HER.out]
  by_cases h0 : ¬ er = 0
  · have b0 : (er != 0) = true := by simpa using h0
    have HZ : Hid (termsN ⟨c, h, x, ls⟩ i p = []) := if_neg (by rw [at_none (by rw [← HER.out]; exact h0), hasK_z]; decide)
    clear h0 hn1 hR
    go_wp2_with fail
    go_ret
    exact ⟨none, 0, 0, rfl, by rw [HZ.out]; rfl, by rw [HZ.out]; exact Rg.nil _ _ _, B1.out, Nat.le_refl _, Nat.zero_le _, fun a h => by cases h⟩
  have h0 : er = 0 := by omega
  subst h0
  by_cases i0 : i < 0
  · have d0 : decide (i < 0) = true := decide_eq_true i0
    have HZ : Hid (termsN ⟨c, h, x, ls⟩ i p = []) := if_neg (by rw [at_far (by omega), hasK_z]; decide)
    clear hn1 hR
    go_wp2_with fail
    go_ret
    exact ⟨none, 0, 0, rfl, by rw [HZ.out]; rfl, by rw [HZ.out]; exact Rg.nil _ _ _, B1.out, Nat.le_refl _, Nat.zero_le _, fun a h => by cases h⟩
  have d0 : decide (i < 0) = false := decide_eq_false i0
  by_cases i1 : (n : Int) ≤ i
  · have d1 : decide ((n : Int) ≤ i) = true := decide_eq_true i1
    have HZ : Hid (termsN ⟨c, h, x, ls⟩ i p = []) := if_neg (by rw [at_far (by rw [← LX.out]; omega), hasK_z]; decide)
    clear hn1 hR
    go_wp2_with fail
    go_ret
    exact ⟨none, 0, 0, rfl, by rw [HZ.out]; rfl, by rw [HZ.out]; exact Rg.nil _ _ _, B1.out, Nat.le_refl _, Nat.zero_le _, fun a h => by cases h⟩
  have d1 : decide ((n : Int) ≤ i) = false := decide_eq_false i1
  obtain ⟨j, rfl⟩ : ∃ j : Nat, i = j := ⟨i.toNat, by omega⟩
  have jn : j < n := by omega
  have d2 : decide (n ≤ j) = false := by simp; omega
  have he := HER.out.symm
  have HI : Hid (isB ⟨c, h, x, ls⟩ (j : Int) = true) := isB_yes ⟨he, by omega, by show (j : Int) < (ls.length : Int); rw [← LX.out]; omega⟩
  rw [shN_ok he] at hR hn1
  rw [sh_len, ← LX.out] at hn1
  obtain ⟨bS, oS, rfl, hlS, hcS⟩ := hR (by rw [sh_len]; omega)
  obtain ⟨b1, o1, rfl, l1, q⟩ := HX.out (by rw [← LX.out]; omega)
  have hjl : j < ls.length := by rw [← LX.out]; exact jn
  have hl := get_ly hjl
  obtain ⟨K, hK⟩ : ∃ K, K = atN ⟨c, h, x, ls⟩ (j : Int) := ⟨_, rfl⟩
  have hKe := hK.trans (at_some he hl)
  have hq := (q j hjl).below B1.out l1
  rw [show ls.getD j Ly.z = K.l by rw [hKe]] at hq
  obtain ⟨a7, a8, a9, a10⟩ := hq
  have g1 := sh_get ls ⟨c, h, x⟩ j (by omega)
  rw [show endS ⟨c, h, x⟩ (ls.take j) = K.i by rw [hKe]] at g1
  have g2 := sh_get ls ⟨c, h, x⟩ (j + 1) (by omega)
  rw [show endS ⟨c, h, x⟩ (ls.take (j + 1)) = K.u by rw [hKe, end_next hl]] at g2
  obtain ⟨a0, a1, a2⟩ := sh_at hcS g1
  obtain ⟨a3, a4, a5⟩ := sh_at hcS g2
  obtain ⟨m, hm⟩ : ∃ m, m = j + 1 := ⟨_, rfl⟩
  rw [← hm] at a3 a4 a5
  have a6 := c3
  have hln : w.heap.size < w1.heap.size := N1.out.lt
  have hlb : b1 < w1.heap.size := Nat.lt_of_lt_of_le l1 B1.out.size
  have ja : (0 : Int) ≤ (j : Int) := by omega
  have jb : (j : Int) < (n1 : Int) := by omega
  have jc : (j : Int) < (n : Int) := by omega
  have ma : (0 : Int) ≤ (m : Int) := by omega
  have mb : (m : Int) < (n1 : Int) := by omega
  have jb' : j < n1 := by omega
  have mb' : m < n1 := by omega
  have v1 : IntKind.i64.wrap ((j : Int) + 1) = (m : Int) := next_i64 hm (Nat.lt_succ_self j) (by omega)
  have v2 : wrap64 ((j : Int) + 1) = (m : Int) := next_wrap hm (Nat.lt_succ_self j) (by omega)
  have HV1 := Lib.hid v1; have HV2 := Lib.hid v2
  have HK := Lib.hid hK
  have GD : Hid (Good K) := by rw [HK.out]; exact good_at HI.out
  clear hK hKe g1 g2 hcS hl he hn1 hm q l1 hjl v1 v2
  by_cases p0 : p < 0
  · have d3 : decide (p < 0) = true := decide_eq_true p0
    have HZ : Hid (termsN ⟨c, h, x, ls⟩ j p = []) := termsN_no (by omega)
    have v1 := HV1.out
    have v2 := HV2.out
    go_wp2_with fail
    go_ret
    exact ⟨none, 0, 0, rfl, by rw [HZ.out]; rfl, by rw [HZ.out]; exact Rg.nil _ _ _, B1.out, Nat.le_refl _, Nat.zero_le _, fun a h => by cases h⟩
  have d3 : decide (p < 0) = false := decide_eq_false p0
  obtain ⟨un, hun⟩ : ∃ un, K.u.n = un := ⟨_, rfl⟩
  have KU : Hid (∀ w, Calls Tryz.prog 32 #[.agg #[.int .i64 K.u.c, .int .i64 K.u.h, .int .i64 K.u.x]] w fun e w' => e = .returned (.int .i64 un) ∧ Below w.heap.size w w') := fun w => by
    rw [← hun]; exact rsize_any K.u.c K.u.h K.u.x w
  have HUN := Lib.hid hun
  clear hun
  have v1 := HV1.out
  have v2 := HV2.out
  go_wp2_with fail
  refine (KU.out _).mono ?_
  rintro e w2 ⟨rfl, hb⟩
  have t0 := (hb.cell (p := ⟨bS, oS + j * 3, none⟩) hlS).trans a0
  have t1 := (hb.cell (p := ⟨bS, oS + j * 3 + 1, none⟩) hlS).trans a1
  have t2 := (hb.cell (p := ⟨bS, oS + j * 3 + 2, none⟩) hlS).trans a2
  have t3 := (hb.cell (p := ⟨bS, oS + m * 3, none⟩) hlS).trans a3
  have t4 := (hb.cell (p := ⟨bS, oS + m * 3 + 1, none⟩) hlS).trans a4
  have t5 := (hb.cell (p := ⟨bS, oS + m * 3 + 2, none⟩) hlS).trans a5
  have t6 := (hb.cell (p := ⟨w.heap.size, 3, none⟩) hln).trans a6
  have t7 := (hb.cell (p := ⟨b1, o1 + j * 4, none⟩) hlb).trans a7
  have t8 := (hb.cell (p := ⟨b1, o1 + j * 4 + 1, none⟩) hlb).trans a8
  have t9 := (hb.cell (p := ⟨b1, o1 + j * 4 + 2, none⟩) hlb).trans a9
  have t10 := (hb.cell (p := ⟨b1, o1 + j * 4 + 3, none⟩) hlb).trans a10
  have hsz := hb.size
  have B2 := Lib.hid (chain B1.out hb)
  have N2 := Lib.hid (N1.out.below hb)
  clear a0 a1 a2 a3 a4 a5 a6 a7 a8 a9 a10 c0 c1 c2 c3
  have a0 := t0
  have a1 := t1
  have a2 := t2
  have a3 := t3
  have a4 := t4
  have a5 := t5
  have a6 := t6
  have a7 := t7
  have a8 := t8
  have a9 := t9
  have a10 := t10
  clear t0 t1 t2 t3 t4 t5 t6 t7 t8 t9 t10
  replace hlS : bS < w2.heap.size := by omega
  replace hln : w.heap.size < w2.heap.size := by omega
  replace hlb : b1 < w2.heap.size := by omega
  clear hsz
  obtain ⟨c0, c1, c2, c3⟩ := N2.out.cells
  clear hb v1 v2
  by_cases pu : un ≤ p
  · have d4 : decide (un ≤ p) = true := decide_eq_true pu
    have HZ : Hid (termsN ⟨c, h, x, ls⟩ j p = []) := termsN_no (by rw [← HK.out, HUN.out]; omega)
    go_wp2_with fail
    go_ret
    exact ⟨none, 0, 0, rfl, by rw [HZ.out]; rfl, by rw [HZ.out]; exact Rg.nil _ _ _, B2.out, Nat.le_refl _, Nat.zero_le _, fun a h => by cases h⟩
  have d4 : decide (un ≤ p) = false := decide_eq_false pu
  have HH : Hid (hasK K p = true) := has_yes (by omega) (by rw [HUN.out]; omega)
  have HT : Hid (termsN ⟨c, h, x, ls⟩ j p = termsK K p) := by have := HH.out; rw [HK.out] at this ⊢; exact termsN_is this
  obtain ⟨fa, hfa⟩ : ∃ fa, fa = K.a := ⟨_, rfl⟩
  obtain ⟨mw, hmw⟩ : ∃ mw, mw = K.w := ⟨_, rfl⟩
  have fa0 : 0 ≤ fa := by rw [hfa]; exact GD.out.2.2.2.2.1
  have fa1 : fa ≤ 512 := by rw [hfa]; exact GD.out.2.2.2.2.2
  have KW : Hid (∀ w, Rl w (some ⟨b1, o1, none⟩) ls → Calls Tryz.prog 45 #[.agg #[.int .i64 c, .int .i64 h, .int .i64 x, .slice (some ⟨b1, o1, none⟩) n cA], .int .i64 (j : Int)] w fun e w' => e = .returned (.tuple #[.int .i64 fa, .int .i64 mw]) ∧ Below w.heap.size w w') := fun w hx => by
    rw [hfa, hmw, HK.out]; exact rweights_of c h x _ cA n ls j w hx LX.out hn
  have HFA := Lib.hid hfa
  clear hfa hmw
  go_wp2_with fail
  refine (KW.out _ (HX.out.below B2.out)).mono ?_
  rintro e w3 ⟨rfl, hb⟩
  have t0 := (hb.cell (p := ⟨bS, oS + j * 3, none⟩) hlS).trans a0
  have t1 := (hb.cell (p := ⟨bS, oS + j * 3 + 1, none⟩) hlS).trans a1
  have t2 := (hb.cell (p := ⟨bS, oS + j * 3 + 2, none⟩) hlS).trans a2
  have t3 := (hb.cell (p := ⟨bS, oS + m * 3, none⟩) hlS).trans a3
  have t4 := (hb.cell (p := ⟨bS, oS + m * 3 + 1, none⟩) hlS).trans a4
  have t5 := (hb.cell (p := ⟨bS, oS + m * 3 + 2, none⟩) hlS).trans a5
  have t6 := (hb.cell (p := ⟨w.heap.size, 3, none⟩) hln).trans a6
  have t7 := (hb.cell (p := ⟨b1, o1 + j * 4, none⟩) hlb).trans a7
  have t8 := (hb.cell (p := ⟨b1, o1 + j * 4 + 1, none⟩) hlb).trans a8
  have t9 := (hb.cell (p := ⟨b1, o1 + j * 4 + 2, none⟩) hlb).trans a9
  have t10 := (hb.cell (p := ⟨b1, o1 + j * 4 + 3, none⟩) hlb).trans a10
  have hsz := hb.size
  have B3 := Lib.hid (chain B2.out hb)
  have N3 := Lib.hid (N2.out.below hb)
  clear a0 a1 a2 a3 a4 a5 a6 a7 a8 a9 a10 c0 c1 c2 c3
  have a0 := t0
  have a1 := t1
  have a2 := t2
  have a3 := t3
  have a4 := t4
  have a5 := t5
  have a6 := t6
  have a7 := t7
  have a8 := t8
  have a9 := t9
  have a10 := t10
  clear t0 t1 t2 t3 t4 t5 t6 t7 t8 t9 t10
  replace hlS : bS < w3.heap.size := by omega
  replace hln : w.heap.size < w3.heap.size := by omega
  replace hlb : b1 < w3.heap.size := by omega
  clear hsz
  obtain ⟨c0, c1, c2, c3⟩ := N3.out.cells
  clear hb
  rcases GD.out.kind with k1 | k2 | k3 | k4
  · have e1 : (K.l.k == 1) = true := by rw [k1]; rfl
    obtain ⟨cz1, cz2, s1, s2, cz3, t1, t2, cz4⟩ := GD.out.conv k1
    obtain ⟨r1, r2, r3, r4, cz5⟩ := right_bd GD.out.2.1
    clear cz1 cz2 cz3 cz4 cz5
    obtain ⟨mm, hmm⟩ : ∃ mm : Nat, K.l.s = mm := ⟨K.l.s.toNat, by omega⟩
    obtain ⟨cn, hcn⟩ : ∃ cn : Nat, K.i.c = cn := ⟨K.i.c.toNat, by omega⟩
    have KC : Hid (∀ w, Calls Tryz.prog 65 #[.agg #[.int .i64 K.i.c, .int .i64 K.i.h, .int .i64 K.i.x], .agg #[.int .i64 K.u.c, .int .i64 K.u.h, .int .i64 K.u.x], .agg #[.int .i64 K.l.k, .int .i64 K.l.o, .int .i64 K.l.s, .int .i64 K.l.t], .int .i64 fa, .int .i64 p] w (RowNew tcells (termsK K p) w)) := fun w => by
      have := rconv6_any K.i K.u K.l mm cn fa p w HH.out GD.out.ur hmm (by omega) hcn (by omega) (by omega) t2 fa0 fa1
      unfold termsK
      rw [if_pos k1, ← HFA.out, hmm, hcn, show (mm : Int).toNat = mm from rfl, show (cn : Int).toNat = cn from rfl]
      rw [hmm, hcn] at this
      exact this
    clear k1 s1 s2 t1 t2 r1 r2 r3 r4 hmm hcn
    go_wp2_with fail
    have v1 := HV1.out
    have v2 := HV2.out
    have HC0 : Hid (Below w3.heap.size w3 w3.drew) := below_drew w3
    have tok1 : True := trivial
    go_region_held3 (fun w' => w'.cell? ⟨bS, oS + j * 3, none⟩ = some (.int .i64 K.i.c) ∧ w'.cell? ⟨bS, oS + j * 3 + 1, none⟩ = some (.int .i64 K.i.h) ∧ w'.cell? ⟨bS, oS + j * 3 + 2, none⟩ = some (.int .i64 K.i.x) ∧ w'.cell? ⟨bS, oS + m * 3, none⟩ = some (.int .i64 K.u.c) ∧ w'.cell? ⟨bS, oS + m * 3 + 1, none⟩ = some (.int .i64 K.u.h) ∧ w'.cell? ⟨bS, oS + m * 3 + 2, none⟩ = some (.int .i64 K.u.x) ∧ w'.cell? ⟨w.heap.size, 3, none⟩ = some (.slice (some ⟨b1, o1, none⟩) n cA) ∧ w'.cell? ⟨b1, o1 + j * 4, none⟩ = some (.int .i64 K.l.k) ∧ w'.cell? ⟨b1, o1 + j * 4 + 1, none⟩ = some (.int .i64 K.l.o) ∧ w'.cell? ⟨b1, o1 + j * 4 + 2, none⟩ = some (.int .i64 K.l.s) ∧ w'.cell? ⟨b1, o1 + j * 4 + 3, none⟩ = some (.int .i64 K.l.t))
      (first | exact ⟨q0, q1, q2, q3, q4, q5, q6, q7, q8, q9, q10⟩ | go_keep)
      (first
        | ((have _t := tok1; clear tok1; go_at_call 65; (with_reducible refine (KC.out _).mono ?_); rintro e w4 ⟨A4, k4, n4, rfl, hn4, hR4, hb4, hd1, hd2, hnew⟩
            have NW4 : Hid (∀ a, A4 = some a → w.heap.size ≤ a.block) := fun a ha => Nat.le_trans (Nat.le_trans B3.out.size HC0.out.size) (hnew a ha)
            clear hnew
            have L4 := Lib.hid hn4; have R4 := Lib.hid hR4; have D1 := Lib.hid hd1; have D2 := Lib.hid hd2
            clear hn4 hR4 hd1 hd2
            have HC1 := Lib.hid (HC0.out.trans (hb4.mono HC0.out.size))
            have q0 := (HC1.out.cell (p := ⟨bS, oS + j * 3, none⟩) hlS).trans a0
            have q1 := (HC1.out.cell (p := ⟨bS, oS + j * 3 + 1, none⟩) hlS).trans a1
            have q2 := (HC1.out.cell (p := ⟨bS, oS + j * 3 + 2, none⟩) hlS).trans a2
            have q3 := (HC1.out.cell (p := ⟨bS, oS + m * 3, none⟩) hlS).trans a3
            have q4 := (HC1.out.cell (p := ⟨bS, oS + m * 3 + 1, none⟩) hlS).trans a4
            have q5 := (HC1.out.cell (p := ⟨bS, oS + m * 3 + 2, none⟩) hlS).trans a5
            have q6 := (HC1.out.cell (p := ⟨w.heap.size, 3, none⟩) hln).trans a6
            have q7 := (HC1.out.cell (p := ⟨b1, o1 + j * 4, none⟩) hlb).trans a7
            have q8 := (HC1.out.cell (p := ⟨b1, o1 + j * 4 + 1, none⟩) hlb).trans a8
            have q9 := (HC1.out.cell (p := ⟨b1, o1 + j * 4 + 2, none⟩) hlb).trans a9
            have q10 := (HC1.out.cell (p := ⟨b1, o1 + j * 4 + 3, none⟩) hlb).trans a10
            clear hb4))
        | fail)
    go_wp2_with fail
    go_ret
    exact ⟨A4, k4, n4, rfl, by rw [HT.out]; exact L4.out, by rw [HT.out]; exact R4.out, chain B3.out HC1.out, D1.out, D2.out, NW4.out⟩
  · have e1 : (K.l.k == 1) = false := by rw [k2]; rfl
    have e2 : (K.l.k == 2) = true := by rw [k2]; rfl
    have HT2 : Hid (termsN ⟨c, h, x, ls⟩ j p = [⟨p, -1⟩]) := by show _ = _; rw [HT.out]; unfold termsK; rw [if_neg (by omega), if_pos k2]
    clear k2
    go_wp2_with fail
    go_ret
    refine ⟨some ⟨w3.heap.size, 0, none⟩, 1, 1, rfl, by rw [HT2.out]; rfl, ?_, chain_alloc B3.out _, Nat.le_refl _, by decide, fun a h => by rw [← Option.some.inj h]; exact B3.out.size⟩
    rw [HT2.out]
    exact rg_block (heap_alloc_new w3 _) rfl
  · have e1 : (K.l.k == 1) = false := by rw [k3]; rfl
    have e2 : (K.l.k == 2) = false := by rw [k3]; rfl
    have e3 : (K.l.k == 3) = true := by rw [k3]; rfl
    have HZ : Hid (termsN ⟨c, h, x, ls⟩ j p = []) := by show _ = _; rw [HT.out]; unfold termsK; rw [if_neg (by omega), if_neg (by omega), if_neg (by omega)]
    clear k3
    go_wp2_with fail
    go_ret
    exact ⟨none, 0, 0, rfl, by rw [HZ.out]; rfl, by rw [HZ.out]; exact Rg.nil _ _ _, B3.out, Nat.le_refl _, Nat.zero_le _, fun a h => by cases h⟩
  · have e1 : (K.l.k == 1) = false := by rw [k4]; rfl
    have e2 : (K.l.k == 2) = false := by rw [k4]; rfl
    have e3 : (K.l.k == 3) = false := by rw [k4]; rfl
    have nb := size_bd K.i
    obtain ⟨q, hq⟩ : ∃ q : Nat, K.i.n = q := ⟨K.i.n.toNat, by omega⟩
    have q1 : q ≤ 128 := by omega
    have HT4 : Hid (termsN ⟨c, h, x, ls⟩ j p = seqT (fa + p * (q : Int)) (numL q)) := by
      show _ = _
      rw [HT.out]; unfold termsK
      rw [if_neg (by omega), if_neg (by omega), if_pos k4, ← HFA.out, hq, show (q : Int).toNat = q from rfl]
    have KI : Hid (∀ w, Calls Tryz.prog 32 #[.agg #[.int .i64 K.i.c, .int .i64 K.i.h, .int .i64 K.i.x]] w fun e w' => e = .returned (.int .i64 (q : Int)) ∧ Below w.heap.size w w') := fun w => by
      rw [← hq]; exact rsize_any K.i.c K.i.h K.i.x w
    have ub : un ≤ 128 := by have := size_bd K.u; have := HUN.out; omega
    have pq := mul_bd (show 0 ≤ p by omega) (show p ≤ 128 by omega) (show (0 : Int) ≤ (q : Int) by omega) (show (q : Int) ≤ 128 by omega)
    obtain ⟨pq0, pq1⟩ := pq
    clear k4 nb hq
    go_wp2_with fail
    refine (KI.out _).mono ?_
    rintro e w4 ⟨rfl, hb⟩
    have B4 := Lib.hid (chain B3.out hb)
    clear hb a0 a1 a2 a3 a4 a5 a6 a7 a8 a9 a10 c0 c1 c2 c3
    obtain ⟨B, hB⟩ : ∃ B, B = w4.heap.size := ⟨_, rfl⟩
    have HBB := Lib.hid hB
    obtain ⟨a, ha⟩ : ∃ a, a = fa + p * (q : Int) := ⟨_, rfl⟩
    have HAQ := Lib.hid ha
    have a0 : 0 ≤ a := by omega
    have a1 : a ≤ 100000 := by omega
    have VA : Hid (∀ k : Nat, fa + p * (q : Int) + (k : Int) = a + (k : Int)) := fun k => by rw [HAQ.out]
    clear ha hB
    go_wp2_with fail
    go_loopg [11, 13] q (fun g v s13 wx => ∃ k : Nat, k ≤ q ∧ Hid (g = q - k) ∧ s13 = .int .i64 (k : Int) ∧ Hid (wx.ownsRow B 82 2 v k ((seqT a (numL k)).flatMap tcells)) ∧ Hid (Below w4.heap.size w4 wx))
    case atStart => exact ⟨0, by omega, by show _ = _; omega, rfl, ⟨rfl, .inl ⟨rfl, rfl⟩⟩, Below.refl _ _⟩
    case round =>
      obtain ⟨k, hk, HG, rfl, OW, BW⟩ := hrel
      by_cases kq : k < q
      · have ki : (k : Int) < (q : Int) := by omega
        have hBw : B ≤ wr.heap.size := by rw [HBB.out]; exact BW.out.size
        obtain ⟨vA, vc, hv, hd1, hd2⟩ := own_rg tcells_len (by decide) OW.out
        subst hv
        clear hd1 hd2
        go_wp2_with (at_builtin; refine wpList_append_own _ rfl _ _ 79 rfl B 82 it (.agg #[.int .i64 0, .int .i64 0]) 2 16 Tryz.underlying79 hit hy0 hy1 hy2 rfl (by decide) _ k _ rfl (OW.out.alloc _) ⟨wr.heap.size, 0, none⟩ 1 1 (tcells ⟨(k : Int), fa + p * (q : Int) + (k : Int)⟩) rfl rfl ?c1 (tcells_one _) ?c3 ?c4 ?c5 ?_)
        case c1 => first | exact fun _ _ h => h | exact new_cells
        case c3 => unfold maxLen; omega
        case c4 => omega
        case c5 => first | omega | (simp; omega)
        intro v' w5 hown2 hgrow hcap
        clear hcap
        have O5 : Hid (w5.ownsRow B 82 2 v' (k + 1) ((seqT a (numL (k + 1))).flatMap tcells)) := by
          show w5.ownsRow _ _ _ _ _ _
          rw [num_next, seq_snoc, num_len, List.flatMap_append]
          rw [VA.out k] at hown2
          simpa using hown2
        have B5 : Hid (Below w4.heap.size w4 w5) := (BW.out.alloc BW.out.size _).grown hgrow (by simp; have := BW.out.size; omega) (fun q hqq => by have := (OW.out.lt _ hqq).1; rw [HBB.out] at this; exact this)
        clear hown2 hgrow
        go_wp2_with fail
        go_roundg (q - (k + 1))
        case measure => have := HG.out; omega
        case rel => exact ⟨k + 1, by omega, rfl, by go_num, O5, B5⟩
      · obtain rfl : k = q := by omega
        obtain ⟨A5, c5, hv, hd1, hd2, hd3, hd4⟩ := own_cap tcells_len (by decide) OW.out
        subst hv
        have NEW : Hid (∀ a, A5 = some a → w.heap.size ≤ a.block) := fun a ha => by have z1 := own_new OW.out a ha; have z2 := B4.out.size; have z3 := HBB.out; omega
        have E1 := Lib.hid hd1; have E2 := Lib.hid hd2; have E3 := Lib.hid hd3; have E4 := Lib.hid hd4
        clear hd1 hd2 hd3 hd4
        go_wp2_with fail
        go_ret
        exact ⟨A5, c5, k, rfl, by rw [HT4.out, ← HAQ.out]; exact E1.out, by rw [HT4.out, ← HAQ.out]; exact E2.out, chain B4.out BW.out, E3.out, E4.out, NEW.out⟩

theorem rterms_any (c h x : Int) (A : Option Addr) (cA n : Nat) (ls : List Ly) (i p : Int) (w : World) (hx : Rl w A ls) (ln : n = ls.length) (hn : n ≤ 1000) :
    Calls Tryz.prog 47 #[.agg #[.int .i64 c, .int .i64 h, .int .i64 x, .slice A n cA], .int .i64 i, .int .i64 p] w (RowTo tcells (termsN ⟨c, h, x, ls⟩ i p) w) :=
  (rterms_new c h x A cA n ls i p w hx ln hn).mono fun _ _ hh => hh.row

set_option maxHeartbeats 8000000 in
set_option maxRecDepth 100000 in
theorem rparts_any (c h x : Int) (A : Option Addr) (cA n : Nat) (ls : List Ly) (i p : Int) (w : World) (hx : Rl w A ls) (ln : n = ls.length) (hn : n ≤ 1000) :
    Calls Tryz.prog 82 #[.agg #[.int .i64 c, .int .i64 h, .int .i64 x, .slice A n cA], .int .i64 i, .int .i64 p] w (RowTo icells (partsN ⟨c, h, x, ls⟩ i p) w) := by
  obtain ⟨it, hit, hy0, hy1, hy2⟩ := info_parts Tryz.info3
  have HX := Lib.hid hx; have LX := Lib.hid ln
  clear hx ln
  obtain ⟨er, her⟩ : ∃ er, er = errN ⟨c, h, x, ls⟩ := ⟨_, rfl⟩
  have HER := Lib.hid her
  clear her
  go_enter Tryz.func82, Tryz.ntmps82
  go_wp2_with fail
  refine (rshapes_any c h x A cA n ls _ (HX.out.below ((Below.refl _ w).alloc (Nat.le_refl _) _)) LX.out hn).mono ?_
  rintro e w1 ⟨A1, k1, n1, rfl, hn1, hR, hb, hd1, hd2⟩
  have B1 := Lib.hid (chain ((Below.refl w.heap.size w).alloc (Nat.le_refl _) _) hb)
  have N1 := Lib.hid ((NB.new w c h x (.slice A n cA)).below hb)
  obtain ⟨c0, c1, c2, c3⟩ := N1.out.cells
  clear hb hd1 hd2
  rw [← HER.out]
  by_cases h0 : ¬ er = 0
  · have b0 : (er != 0) = true := by simpa using h0
    have HZ : Hid (partsN ⟨c, h, x, ls⟩ i p = []) := if_neg (by rw [at_none (by rw [← HER.out]; exact h0), hasK_z]; decide)
    clear h0 hn1 hR
    go_wp2_with fail
    go_ret
    exact ⟨none, 0, 0, rfl, by rw [HZ.out]; rfl, by rw [HZ.out]; exact Rg.nil _ _ _, B1.out, Nat.le_refl _, Nat.zero_le _⟩
  have h0 : er = 0 := by omega
  subst h0
  by_cases i0 : i < 0
  · have d0 : decide (i < 0) = true := decide_eq_true i0
    have HZ : Hid (partsN ⟨c, h, x, ls⟩ i p = []) := if_neg (by rw [at_far (by omega), hasK_z]; decide)
    clear hn1 hR
    go_wp2_with fail
    go_ret
    exact ⟨none, 0, 0, rfl, by rw [HZ.out]; rfl, by rw [HZ.out]; exact Rg.nil _ _ _, B1.out, Nat.le_refl _, Nat.zero_le _⟩
  have d0 : decide (i < 0) = false := decide_eq_false i0
  by_cases i1 : (n : Int) ≤ i
  · have d1 : decide ((n : Int) ≤ i) = true := decide_eq_true i1
    have HZ : Hid (partsN ⟨c, h, x, ls⟩ i p = []) := if_neg (by rw [at_far (by rw [← LX.out]; omega), hasK_z]; decide)
    clear hn1 hR
    go_wp2_with fail
    go_ret
    exact ⟨none, 0, 0, rfl, by rw [HZ.out]; rfl, by rw [HZ.out]; exact Rg.nil _ _ _, B1.out, Nat.le_refl _, Nat.zero_le _⟩
  have d1 : decide ((n : Int) ≤ i) = false := decide_eq_false i1
  obtain ⟨j, rfl⟩ : ∃ j : Nat, i = j := ⟨i.toNat, by omega⟩
  have jn : j < n := by omega
  have d2 : decide (n ≤ j) = false := by simp; omega
  have he := HER.out.symm
  have HI : Hid (isB ⟨c, h, x, ls⟩ (j : Int) = true) := isB_yes ⟨he, by omega, by show (j : Int) < (ls.length : Int); rw [← LX.out]; omega⟩
  rw [shN_ok he] at hR hn1
  rw [sh_len, ← LX.out] at hn1
  obtain ⟨bS, oS, rfl, hlS, hcS⟩ := hR (by rw [sh_len]; omega)
  obtain ⟨b1, o1, rfl, l1, q⟩ := HX.out (by rw [← LX.out]; omega)
  have hjl : j < ls.length := by rw [← LX.out]; exact jn
  have hl := get_ly hjl
  obtain ⟨K, hK⟩ : ∃ K, K = atN ⟨c, h, x, ls⟩ (j : Int) := ⟨_, rfl⟩
  have hKe := hK.trans (at_some he hl)
  have hq := (q j hjl).below B1.out l1
  rw [show ls.getD j Ly.z = K.l by rw [hKe]] at hq
  obtain ⟨a7, a8, a9, a10⟩ := hq
  have g1 := sh_get ls ⟨c, h, x⟩ j (by omega)
  rw [show endS ⟨c, h, x⟩ (ls.take j) = K.i by rw [hKe]] at g1
  have g2 := sh_get ls ⟨c, h, x⟩ (j + 1) (by omega)
  rw [show endS ⟨c, h, x⟩ (ls.take (j + 1)) = K.u by rw [hKe, end_next hl]] at g2
  obtain ⟨a0, a1, a2⟩ := sh_at hcS g1
  obtain ⟨a3, a4, a5⟩ := sh_at hcS g2
  obtain ⟨m, hm⟩ : ∃ m, m = j + 1 := ⟨_, rfl⟩
  rw [← hm] at a3 a4 a5
  have a6 := c3
  have hln : w.heap.size < w1.heap.size := N1.out.lt
  have hlb : b1 < w1.heap.size := Nat.lt_of_lt_of_le l1 B1.out.size
  have ja : (0 : Int) ≤ (j : Int) := by omega
  have jb : (j : Int) < (n1 : Int) := by omega
  have jc : (j : Int) < (n : Int) := by omega
  have ma : (0 : Int) ≤ (m : Int) := by omega
  have mb : (m : Int) < (n1 : Int) := by omega
  have jb' : j < n1 := by omega
  have mb' : m < n1 := by omega
  have v1 : IntKind.i64.wrap ((j : Int) + 1) = (m : Int) := next_i64 hm (Nat.lt_succ_self j) (by omega)
  have v2 : wrap64 ((j : Int) + 1) = (m : Int) := next_wrap hm (Nat.lt_succ_self j) (by omega)
  have HV1 := Lib.hid v1; have HV2 := Lib.hid v2
  have HK := Lib.hid hK
  have GD : Hid (Good K) := by rw [HK.out]; exact good_at HI.out
  clear hK hKe g1 g2 hcS hl he hn1 hm q l1 hjl v1 v2
  by_cases k3 : ¬ K.l.k = 3
  · have d3 : (K.l.k != 3) = true := by simpa using k3
    have HZ : Hid (partsN ⟨c, h, x, ls⟩ j p = []) := by
      show _ = _
      unfold partsN partsK
      rw [← HK.out, if_neg k3]; simp
    clear k3
    go_wp2_with fail
    go_ret
    exact ⟨none, 0, 0, rfl, by rw [HZ.out]; rfl, by rw [HZ.out]; exact Rg.nil _ _ _, B1.out, Nat.le_refl _, Nat.zero_le _⟩
  have k3 : K.l.k = 3 := by omega
  have d3 : (K.l.k != 3) = false := by rw [k3]; rfl
  obtain ⟨hs1, hs2, hs3, hs4⟩ := GD.out.pool k3
  obtain ⟨r1, r2, r3, r4, r5, r6, r7⟩ := right_bd GD.out.2.1
  obtain ⟨u1, u2, u3, u4, u5, u6, u7⟩ := right_bd GD.out.ur
  have ss2 : K.l.s ≤ 12 := by
    by_cases hle : K.l.s ≤ K.i.h
    · omega
    · rw [Int.emod_eq_of_lt (by omega) (by omega)] at hs2; omega
  obtain ⟨mm, hmm⟩ : ∃ mm : Nat, K.l.s = mm := ⟨K.l.s.toNat, by omega⟩
  have mm1 : mm ≤ 12 := by omega
  obtain ⟨ch, hch⟩ : ∃ ch, chI K.u.c K.u.h K.u.x p = ch := ⟨_, rfl⟩
  obtain ⟨y, hy⟩ : ∃ y, rowI K.u.c K.u.h K.u.x p = y := ⟨_, rfl⟩
  obtain ⟨z, hz⟩ : ∃ z, colI K.u.c K.u.h K.u.x p = z := ⟨_, rfl⟩
  obtain ⟨is, his⟩ : ∃ is, hasB K.u.c K.u.h K.u.x p = is := ⟨_, rfl⟩
  have KO : Hid (∀ w, Calls Tryz.prog 83 #[.agg #[.int .i64 K.u.c, .int .i64 K.u.h, .int .i64 K.u.x], .int .i64 p] w fun e w' => e = .returned (.tuple #[.int .i64 ch, .int .i64 y, .int .i64 z, .bool is]) ∧ Below w.heap.size w w') := fun w => by
    refine (rof_any K.u.c K.u.h K.u.x p w).mono ?_
    rintro e w' ⟨he, hb⟩
    rw [hch, hy, hz, his] at he
    exact ⟨he, hb⟩
  have HPN : Hid (partsN ⟨c, h, x, ls⟩ j p = if is = true then winL K.i ch (y * (mm : Int)) (z * (mm : Int)) mm else []) := by
    show _ = _
    unfold partsN partsK hasK
    rw [← HK.out, his, if_pos k3, hch, hy, hz, hmm, show (mm : Int).toNat = mm from rfl]
  have OB : Hid (is = true → (0 ≤ y ∧ y ≤ 11) ∧ (0 ≤ z ∧ z ≤ 11)) := fun e => by
    have h1 := of_bd (s := K.u) (by rw [his]; exact e)
    rw [hy, hz] at h1
    omega
  rw [hmm] at a9
  have v1 := HV1.out
  have v2 := HV2.out
  have HMM := Lib.hid hmm
  clear k3 hs1 hs2 hs3 hs4 r1 r2 r3 r4 r5 r6 r7 u1 u2 u3 u4 u5 u6 u7 ss2 hmm hch hy hz his
  go_wp2_with fail
  refine (KO.out _).mono ?_
  rintro e w2 ⟨rfl, hb⟩
  have t0 := (hb.cell (p := ⟨bS, oS + j * 3, none⟩) hlS).trans a0
  have t1 := (hb.cell (p := ⟨bS, oS + j * 3 + 1, none⟩) hlS).trans a1
  have t2 := (hb.cell (p := ⟨bS, oS + j * 3 + 2, none⟩) hlS).trans a2
  have t3 := (hb.cell (p := ⟨bS, oS + m * 3, none⟩) hlS).trans a3
  have t4 := (hb.cell (p := ⟨bS, oS + m * 3 + 1, none⟩) hlS).trans a4
  have t5 := (hb.cell (p := ⟨bS, oS + m * 3 + 2, none⟩) hlS).trans a5
  have t6 := (hb.cell (p := ⟨w.heap.size, 3, none⟩) hln).trans a6
  have t7 := (hb.cell (p := ⟨b1, o1 + j * 4, none⟩) hlb).trans a7
  have t8 := (hb.cell (p := ⟨b1, o1 + j * 4 + 1, none⟩) hlb).trans a8
  have t9 := (hb.cell (p := ⟨b1, o1 + j * 4 + 2, none⟩) hlb).trans a9
  have t10 := (hb.cell (p := ⟨b1, o1 + j * 4 + 3, none⟩) hlb).trans a10
  have hsz := hb.size
  have B2 := Lib.hid (chain B1.out hb)
  have N2 := Lib.hid (N1.out.below hb)
  clear a0 a1 a2 a3 a4 a5 a6 a7 a8 a9 a10 c0 c1 c2 c3
  have a0 := t0
  have a1 := t1
  have a2 := t2
  have a3 := t3
  have a4 := t4
  have a5 := t5
  have a6 := t6
  have a7 := t7
  have a8 := t8
  have a9 := t9
  have a10 := t10
  clear t0 t1 t2 t3 t4 t5 t6 t7 t8 t9 t10
  replace hlS : bS < w2.heap.size := by omega
  replace hln : w.heap.size < w2.heap.size := by omega
  replace hlb : b1 < w2.heap.size := by omega
  clear hsz
  obtain ⟨c0, c1, c2, c3⟩ := N2.out.cells
  clear hb v1 v2
  by_cases hisf : is = false
  · subst hisf
    have HZ : Hid (partsN ⟨c, h, x, ls⟩ j p = []) := by show _ = _; rw [HPN.out]; simp
    by_cases m0 : 0 < mm
    · have m0i : (0 : Int) < (mm : Int) := by omega
      go_wp2_with fail
      go_loopg [13, 15, 16] 0 (fun _ v s15 _ wx => v = .slice none 0 0 ∧ s15 = .int .i64 0 ∧ Hid (Below w2.heap.size w2 wx))
      case atStart => exact ⟨rfl, rfl, Below.refl _ _⟩
      case round =>
        obtain ⟨rfl, rfl, BW⟩ := hrel
        go_wp2_with fail
        go_ret
        exact ⟨none, 0, 0, rfl, by rw [HZ.out]; rfl, by rw [HZ.out]; exact Rg.nil _ _ _, chain B2.out BW.out, Nat.le_refl _, Nat.zero_le _⟩
    · obtain rfl : mm = 0 := by omega
      go_wp2_with fail
      go_loopg [13, 15, 16] 0 (fun _ v s15 _ wx => v = .slice none 0 0 ∧ s15 = .int .i64 0 ∧ Hid (Below w2.heap.size w2 wx))
      case atStart => exact ⟨rfl, rfl, Below.refl _ _⟩
      case round =>
        obtain ⟨rfl, rfl, BW⟩ := hrel
        go_wp2_with fail
        go_ret
        exact ⟨none, 0, 0, rfl, by rw [HZ.out]; rfl, by rw [HZ.out]; exact Rg.nil _ _ _, chain B2.out BW.out, Nat.le_refl _, Nat.zero_le _⟩
  have hist : is = true := by cases is <;> simp_all
  subst hist
  obtain ⟨⟨y0, y1⟩, ⟨z0, z1⟩⟩ := OB.out rfl
  have HP1 : Hid (partsN ⟨c, h, x, ls⟩ j p = winL K.i ch (y * (mm : Int)) (z * (mm : Int)) mm) := by show _ = _; rw [HPN.out, if_pos rfl]
  obtain ⟨yt, hyt⟩ : ∃ yt, yt = y * (mm : Int) := ⟨_, rfl⟩
  obtain ⟨zt, hzt⟩ : ∃ zt, zt = z * (mm : Int) := ⟨_, rfl⟩
  have yb := mul_bd y0 y1 (show (0 : Int) ≤ (mm : Int) by omega) (show (mm : Int) ≤ 12 by omega)
  have zb := mul_bd z0 z1 (show (0 : Int) ≤ (mm : Int) by omega) (show (mm : Int) ≤ 12 by omega)
  rw [← hyt] at yb
  rw [← hzt] at zb
  rw [← hyt, ← hzt] at HP1
  obtain ⟨yb0, yb1⟩ := yb
  obtain ⟨zb0, zb1⟩ := zb
  obtain ⟨B, hB⟩ : ∃ B, B = w2.heap.size := ⟨_, rfl⟩
  have HBB := Lib.hid hB
  have HA0 := Lib.hid a0; have HA1 := Lib.hid a1; have HA2 := Lib.hid a2
  clear hisf hB
  go_wp2_with fail
  clear a0 a1 a2 a3 a4 a5 a6 a7 a8 a9 a10 c0 c1 c2 c3
  go_loopg [13, 15, 16] mm (fun g v s15 _ wx => ∃ r : Nat, r ≤ mm ∧ Hid (g = mm - r) ∧ s15 = .int .i64 (r : Int) ∧ Hid (wx.ownsRow B 3 1 v (r * mm) ((winR K.i ch yt zt mm r).flatMap icells)) ∧ Hid (Below w2.heap.size w2 wx))
  case atStart => exact ⟨0, by omega, by show _ = _; omega, rfl, by show World.ownsRow _ _ _ _ _ _ _; rw [Nat.zero_mul]; exact ⟨rfl, .inl ⟨rfl, rfl⟩⟩, Below.refl _ _⟩
  case round =>
    obtain ⟨r, hr, HG, rfl, OR, BR⟩ := hrel
    by_cases rm : r < mm
    · have ri : (r : Int) < (mm : Int) := by omega
      go_wp2_with fail
      go_loopg [13, 16] mm (fun g v s16 wx => ∃ k : Nat, k ≤ mm ∧ Hid (g = mm - k) ∧ s16 = .int .i64 (k : Int) ∧ Hid (wx.ownsRow B 3 1 v (r * mm + k) ((winR K.i ch yt zt mm r ++ rowL K.i ch (yt + (r : Nat)) zt k).flatMap icells)) ∧ Hid (Below w2.heap.size w2 wx))
      case atStart => exact ⟨0, by omega, by show _ = _; omega, rfl, by show World.ownsRow _ _ _ _ _ _ _; simpa [rowL] using OR.out, BR⟩
      case round =>
        obtain ⟨k, hk, HG2, rfl, OK, BK⟩ := hrel
        by_cases km : k < mm
        · have ki : (k : Int) < (mm : Int) := by omega
          have a0 := (BK.out.cell (p := ⟨bS, oS + j * 3, none⟩) hlS).trans HA0.out
          have a1 := (BK.out.cell (p := ⟨bS, oS + j * 3 + 1, none⟩) hlS).trans HA1.out
          have a2 := (BK.out.cell (p := ⟨bS, oS + j * 3 + 2, none⟩) hlS).trans HA2.out
          obtain ⟨y2, hy2e⟩ : ∃ y2, y2 = yt + (r : Int) := ⟨_, rfl⟩
          obtain ⟨z2, hz2e⟩ : ∃ z2, z2 = zt + (k : Int) := ⟨_, rfl⟩
          obtain ⟨vv, hvv⟩ : ∃ vv, atI K.i.c K.i.h K.i.x ch y2 z2 = vv := ⟨_, rfl⟩
          have KA : Hid (∀ w, Calls Tryz.prog 84 #[.agg #[.int .i64 K.i.c, .int .i64 K.i.h, .int .i64 K.i.x], .int .i64 ch, .int .i64 (y * (mm : Int) + (r : Int)), .int .i64 (z * (mm : Int) + (k : Int))] w fun e w' => e = .returned (.int .i64 vv) ∧ Below w.heap.size w w') := fun w => by
            rw [← hvv, hy2e, hz2e, hyt, hzt]; exact rat_any K.i.c K.i.h K.i.x ch _ _ w
          have RN : Hid (rowL K.i ch (yt + (r : Nat)) zt (k + 1) = rowL K.i ch (yt + (r : Nat)) zt k ++ [vv]) := by
            show _ = _
            rw [row_next, ← hvv, hy2e, hz2e]
          have hb1 : r * mm ≤ 11 * 12 := Nat.mul_le_mul (by omega) mm1
          have q1 : 0 ≤ y * (mm : Int) ∧ y * (mm : Int) ≤ 132 := by rw [← hyt]; omega
          have q2 : 0 ≤ z * (mm : Int) ∧ z * (mm : Int) ≤ 132 := by rw [← hzt]; omega
          obtain ⟨q1a, q1b⟩ := q1
          obtain ⟨q2a, q2b⟩ := q2
          have HYT := Lib.hid hyt; have HZT := Lib.hid hzt
          clear hy2e hz2e hvv hyt hzt
          go_wp2_with fail
          refine (KA.out _).mono ?_
          rintro e w4 ⟨rfl, hb⟩
          have O4 := Lib.hid (own_belowE OK.out hb)
          have B4 := Lib.hid (chain BK.out hb)
          have hBw : B ≤ w4.heap.size := by rw [HBB.out]; exact B4.out.size
          clear hb a0 a1 a2
          obtain ⟨vA, vc, hv, hd1, hd2⟩ := own_rg icells_len (by decide) O4.out
          subst hv
          clear hd1 hd2
          go_wp2_with (at_builtin; refine wpList_append_own _ rfl _ _ 36 rfl B 3 it (.int .i64 0) 1 8 Tryz.underlying36 hit hy0 hy1 hy2 rfl (by decide) _ (r * mm + k) _ rfl (O4.out.alloc _) ⟨w4.heap.size, 0, none⟩ 1 1 (icells vv) rfl rfl ?d1 (icells_one _) ?d3 ?d4 ?d5 ?_)
          case d1 => first | exact fun _ _ h => h | exact new_cells
          case d3 => unfold maxLen; omega
          case d4 => omega
          case d5 => first | omega | (simp; omega)
          intro v' w5 hown2 hgrow hcap
          clear hcap
          have O5 : Hid (w5.ownsRow B 3 1 v' (r * mm + (k + 1)) ((winR K.i ch yt zt mm r ++ rowL K.i ch (yt + (r : Nat)) zt (k + 1)).flatMap icells)) := by
            show w5.ownsRow _ _ _ _ _ _
            rw [RN.out, ← List.append_assoc, List.flatMap_append, ← Nat.add_assoc]
            simpa using hown2
          have B5 : Hid (Below w2.heap.size w2 w5) := (B4.out.alloc B4.out.size _).grown hgrow (by simp; have := B4.out.size; omega) (fun q hqq => by have := (O4.out.lt _ hqq).1; rw [HBB.out] at this; exact this)
          clear hown2 hgrow
          go_wp2_with fail
          go_roundg (mm - (k + 1))
          case measure => have := HG2.out; omega
          case rel => exact ⟨k + 1, by omega, rfl, by go_num, O5, B5⟩
        · obtain rfl : k = mm := by omega
          have hO6 := OK.out
          rw [← win_next, ← Nat.succ_mul] at hO6
          have O6 := Lib.hid hO6
          clear hO6
          go_wp2_with fail
          go_roundg (k - (r + 1))
          case measure => have := HG.out; omega
          case rel => exact ⟨r + 1, by omega, rfl, by go_num, O6, BK⟩
    · obtain rfl : r = mm := by omega
      obtain ⟨A5, c5, hv, hd1, hd2, hd3, hd4⟩ := own_cap icells_len (by decide) OR.out
      subst hv
      have E1 := Lib.hid hd1; have E2 := Lib.hid hd2; have E3 := Lib.hid hd3; have E4 := Lib.hid hd4
      clear hd1 hd2 hd3 hd4
      go_wp2_with fail
      go_ret
      exact ⟨A5, c5, _, rfl, by rw [HP1.out]; exact E1.out, by rw [HP1.out]; exact E2.out, chain B2.out BR.out, E3.out, E4.out⟩

end Go.Proofs.YtklgjhldebdegaaGreat
