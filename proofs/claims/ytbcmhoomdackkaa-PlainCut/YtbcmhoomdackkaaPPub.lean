/-
  What fit, Layer and F of package plain answer. What Clone of the library, and F of package plain, answer: a network is its layers, in turn.
-/
import Derived.Test.YtbcmhoomdackkaaPThru
import Derived.Maps.AppendAt
namespace Go.Proofs.Ytbcmhoomdackkaa
open Go.RowKit

/-- A row of numbers and a Boolean that are handed out. -/
def PairTo (us : List UInt64) (r : Bool) (w : World) (e : Ending) (w' : World) : Prop :=
  ∃ (A : Option Addr) (k n : Nat), e = .returned (.tuple #[.slice A n k, .bool r]) ∧ n = us.length ∧ Rg ucells w' A us ∧ Below w.heap.size w w' ∧ n ≤ k ∧ k ≤ maxLen
def fitB (N : Nt) (m : Nat) : Bool := decide (errN N = 0 ∧ (m : Int) = totW (knN N))
def FitTo (N : Nt) (b : Bool) (w : World) (e : Ending) (w' : World) : Prop :=
  ∃ (A : Option Addr) (k n : Nat), e = .returned (.tuple #[.slice A n k, .bool b]) ∧ n = (shN N).length ∧ Rs w' A (shN N) ∧ Below w.heap.size w w'

set_option maxHeartbeats 1000000 in
theorem psize (S : Sh) (hr : S.r = true) (w : World) : Calls Try.prog 46 #[.agg #[.int .i64 S.c, .int .i64 S.h, .int .i64 S.x]] w fun e w' => e = .returned (.int .i64 S.n) ∧ Below w.heap.size w w' := by
  obtain ⟨r1, r2, r3, r4, r5, r6, r7⟩ := right_bd hr
  have hn := Sh.n_eq hr
  obtain ⟨s, hs⟩ : ∃ s, s = S.n := ⟨_, rfl⟩
  obtain ⟨m, hm⟩ : ∃ m, m = S.c * S.h := ⟨_, rfl⟩
  have b1 := mul_bd (show 0 ≤ S.c by omega) r2 (show 0 ≤ S.h by omega) r4
  have b2 := size_bd S
  rw [← hm] at b1
  rw [← hs] at b2
  rw [← hs, ← hm] at hn
  rw [← hs]
  have v1 : IntKind.i64.wrap (S.c * S.h) = m := by rw [← hm, IntWalk.i64_in _ (by omega)]
  have v2 : wrap64 (S.c * S.h) = m := by rw [← hm, IntWalk.wrap64_in _ (by omega)]
  have v3 : IntKind.i64.wrap (m * S.x) = s := by rw [← hn, IntWalk.i64_in _ (by omega)]
  have v4 : wrap64 (m * S.x) = s := by rw [← hn, IntWalk.wrap64_in _ (by omega)]
  clear hs hm hn b1 b2 r1 r2 r3 r4 r5 r6 r7 hr
  go_enter Try.func46, Try.ntmps46
  go_wp2_with fail
  go_ret
  exact ⟨rfl, chain_alloc (Below.refl _ w) _⟩

set_option maxHeartbeats 1000000 in
set_option maxRecDepth 100000 in
theorem fit_any (c h x : Int) (A W : Option Addr) (cA n cW nw : Nat) (ls : List Ly) (b : Bool) (hb : fitB ⟨c, h, x, ls⟩ nw = b) (w : World) (hx : Rl w A ls) (ln : n = ls.length) (hn : n ≤ 1000) :
    Calls Try.prog 45 #[.agg #[.int .i64 c, .int .i64 h, .int .i64 x, .slice A n cA], .slice W nw cW] w (FitTo ⟨c, h, x, ls⟩ b w) := by
  have HX := Lib.hid hx; have LX := Lib.hid ln; have HB := Lib.hid hb
  obtain ⟨er, her⟩ : ∃ er, er = errN ⟨c, h, x, ls⟩ := ⟨_, rfl⟩
  obtain ⟨tw, htw⟩ : ∃ tw, tw = totW (knN ⟨c, h, x, ls⟩) := ⟨_, rfl⟩
  have HER := Lib.hid her; have HTW := Lib.hid htw
  clear hx ln hb her htw
  go_enter Try.func45, Try.ntmps45
  go_wp2_with fail
  refine (shapes_any c h x A cA n ls _ (HX.out.below ((Below.refl _ w).alloc (Nat.le_refl _) _)) LX.out hn).mono ?_
  rintro e w1 ⟨A1, k1, n1, rfl, hn1, hR, hb, hd1, hd2⟩
  have B1 := Lib.hid (chain ((Below.refl w.heap.size w).alloc (Nat.le_refl _) _) hb)
  have N1 := Lib.hid ((NB.new w c h x (.slice A n cA)).below hb)
  obtain ⟨c0, c1, c2, c3⟩ := N1.out.cells
  have HR := Lib.hid hR; have HN := Lib.hid hn1
  clear hb hd1 hd2 hR hn1
  rw [← HER.out]
  go_wp2_with fail
  refine (all_any c h x A cA n ls _ (HX.out.below B1.out) LX.out hn).mono ?_
  rintro e w2 ⟨rfl, hb⟩
  rw [← HTW.out]
  have B2 := Lib.hid (chain B1.out hb)
  have R2 := Lib.hid (HR.out.below hb)
  clear hb c0 c1 c2 c3
  by_cases h0 : ¬ er = 0
  · have b0 : (er == 0) = false := by simpa using h0
    obtain rfl : b = false := by rw [← HB.out]; exact decide_eq_false (by rw [← HER.out]; exact fun q => h0 q.1)
    clear h0
    go_wp2_with fail
    go_ret2
    exact ⟨A1, k1, n1, rfl, HN.out, R2.out, B2.out⟩
  have h0 : er = 0 := by omega
  have b0 : (er == 0) = true := by rw [h0]; rfl
  by_cases h1 : (nw : Int) = tw
  · have b1 : ((nw : Int) == tw) = true := by rw [h1]; simp
    obtain rfl : b = true := by rw [← HB.out]; exact decide_eq_true (by rw [← HER.out, ← HTW.out]; exact ⟨h0, h1⟩)
    clear h0 h1
    go_wp2_with fail
    go_ret2
    exact ⟨A1, k1, n1, rfl, HN.out, R2.out, B2.out⟩
  · have b1 : ((nw : Int) == tw) = false := by simpa using h1
    obtain rfl : b = false := by rw [← HB.out]; exact decide_eq_false (by rw [← HTW.out]; exact fun q => h1 q.2)
    clear h0 h1
    go_wp2_with fail
    go_ret2
    exact ⟨A1, k1, n1, rfl, HN.out, R2.out, B2.out⟩

set_option maxHeartbeats 4000000 in
set_option maxRecDepth 100000 in
theorem layer_any (c h x : Int) (A X W : Option Addr) (cA n cX nx cW nw : Nat) (ls : List Ly) (xs ws us : List UInt64) (i : Int) (r : Bool) (w : World) (hx : Rl w A ls) (ln : n = ls.length) (hn : n ≤ 1000) (hX : Rg ucells w X xs) (lx : nx = xs.length) (hW : Rg ucells w W ws) (lw : nw = ws.length) (hus : layN ⟨c, h, x, ls⟩ i xs ws = us) (hr : okL ⟨c, h, x, ls⟩ i xs ws = r) :
    Calls Try.prog 26 #[.agg #[.int .i64 c, .int .i64 h, .int .i64 x, .slice A n cA], .int .i64 i, .slice X nx cX, .slice W nw cW] w (PairTo us r w) := by
  have HX := Lib.hid hx; have LX := Lib.hid ln; have HXR := Lib.hid hX; have LXX := Lib.hid lx; have HWR := Lib.hid hW; have LWW := Lib.hid lw
  have NO : Hid (okL ⟨c, h, x, ls⟩ i xs ws = false → r = false ∧ us = []) := fun e => ⟨hr.symm.trans e, by rw [← hus]; exact lay_no e⟩
  have HUS := Lib.hid hus; have HR := Lib.hid hr
  obtain ⟨b, hb⟩ : ∃ b, fitB ⟨c, h, x, ls⟩ nw = b := ⟨_, rfl⟩
  have HB := Lib.hid hb
  clear hx ln hX lx hW lw hus hr hb
  go_enter Try.func26, Try.ntmps26
  go_wp2_with fail
  refine (fit_any c h x A W cA n cW nw ls b HB.out _ (HX.out.below ((Below.refl _ w).alloc (Nat.le_refl _) _)) LX.out hn).mono ?_
  rintro e w1 ⟨A1, k1, n1, rfl, hn1, hR, hb⟩
  have B1 := Lib.hid (chain ((Below.refl w.heap.size w).alloc (Nat.le_refl _) _) hb)
  have N1 := Lib.hid ((NB.new w c h x (.slice A n cA)).below hb)
  obtain ⟨a0, a1, a2, a3⟩ := N1.out.cells
  have lN := N1.out.lt
  clear hb
  cases b
  · obtain ⟨rfl, rfl⟩ := NO.out (decide_eq_false fun q => of_decide_eq_false HB.out ⟨q.1.1, by rw [LWW.out]; exact q.2.2⟩)
    clear hn1 hR
    go_wp2_with fail
    go_ret2
    exact ⟨none, 0, 0, rfl, rfl, Rg.nil _ _ _, B1.out, Nat.le_refl _, Nat.zero_le _⟩
  obtain ⟨he, hw⟩ := of_decide_eq_true HB.out
  by_cases i0 : i < 0
  · have d0 : decide (i < 0) = true := decide_eq_true i0
    obtain ⟨rfl, rfl⟩ := NO.out (decide_eq_false fun q => by omega)
    clear hn1 hR he hw
    go_wp2_with fail
    go_ret2
    exact ⟨none, 0, 0, rfl, rfl, Rg.nil _ _ _, B1.out, Nat.le_refl _, Nat.zero_le _⟩
  have d0 : decide (i < 0) = false := decide_eq_false i0
  by_cases i1 : (n : Int) ≤ i
  · have d1 : decide ((n : Int) ≤ i) = true := decide_eq_true i1
    obtain ⟨rfl, rfl⟩ := NO.out (decide_eq_false fun q => by have q2 : i < (ls.length : Int) := q.1.2.2; have := LX.out; omega)
    clear hn1 hR he hw
    go_wp2_with fail
    go_ret2
    exact ⟨none, 0, 0, rfl, rfl, Rg.nil _ _ _, B1.out, Nat.le_refl _, Nat.zero_le _⟩
  have d1 : decide ((n : Int) ≤ i) = false := decide_eq_false i1
  obtain ⟨j, rfl⟩ : ∃ j : Nat, i = j := ⟨i.toNat, by omega⟩
  have jn : j < n := by omega
  have d2 : decide (n ≤ j) = false := by simp; omega
  rw [shN_ok he] at hR hn1
  rw [sh_len, ← LX.out] at hn1
  obtain ⟨bS, oS, rfl, hlS, hcS⟩ := hR (by rw [sh_len]; omega)
  have hjl : j < ls.length := by rw [← LX.out]; exact jn
  have hl := get_ly hjl
  obtain ⟨K, hK⟩ : ∃ K, K = atN ⟨c, h, x, ls⟩ (j : Int) := ⟨_, rfl⟩
  have hKe := hK.trans (at_some he hl)
  have g1 := sh_get ls ⟨c, h, x⟩ j (by omega)
  rw [show endS ⟨c, h, x⟩ (ls.take j) = K.i by rw [hKe]] at g1
  have g2 := sh_get ls ⟨c, h, x⟩ (j + 1) (by omega)
  rw [show endS ⟨c, h, x⟩ (ls.take (j + 1)) = K.u by rw [hKe, run_end c h x ls hl]] at g2
  obtain ⟨y0, y1, y2⟩ := sh_at hcS g1
  obtain ⟨a4, a5, a6⟩ := sh_at hcS g2
  obtain ⟨m, hm⟩ : ∃ m, m = j + 1 := ⟨_, rfl⟩
  rw [← hm] at a4 a5 a6
  have GD : Good K := by rw [hK]; exact good_at (isB_yes ⟨he, by omega, by show (j : Int) < (ls.length : Int); omega⟩)
  have ja : (0 : Int) ≤ (j : Int) := by omega
  have jb : (j : Int) < (n1 : Int) := by omega
  have ma : (0 : Int) ≤ (m : Int) := by omega
  have mb : (m : Int) < (n1 : Int) := by omega
  have jb' : j < n1 := by omega
  have mb' : m < n1 := by omega
  have v1 : IntKind.i64.wrap ((j : Int) + 1) = (m : Int) := next_i64 hm (Nat.lt_succ_self j) (by omega)
  have v2 : wrap64 ((j : Int) + 1) = (m : Int) := next_wrap hm (Nat.lt_succ_self j) (by omega)
  have PI := Lib.hid (psize K.i GD.2.1)
  have PS := Lib.hid (psize K.u GD.ur)
  have HK := Lib.hid hK; have HE := Lib.hid he; have HWN := Lib.hid hw
  obtain ⟨kn, hkn⟩ : ∃ kn, kn = K.i.n := ⟨_, rfl⟩
  have HKN := Lib.hid hkn
  have HGD := Lib.hid GD
  have un := size_bd K.u
  obtain ⟨ku, hku⟩ : ∃ ku : Nat, K.u.n = ku := ⟨K.u.n.toNat, by omega⟩
  have HKU := Lib.hid hku
  rw [← hkn] at PI
  rw [hku] at PS
  clear hK hKe g1 g2 hcS hl he hn1 hm hw hkn GD un hku
  go_wp2_with fail
  refine (PI.out _).mono ?_
  rintro e w4 ⟨rfl, hb4⟩
  have B4 := Lib.hid (chain B1.out hb4)
  have lN := Nat.lt_of_lt_of_le lN hb4.size
  have a0 := (hb4.cell (p := ⟨w.heap.size, 0, none⟩) N1.out.lt).trans a0
  have a1 := (hb4.cell (p := ⟨w.heap.size, 1, none⟩) N1.out.lt).trans a1
  have a2 := (hb4.cell (p := ⟨w.heap.size, 2, none⟩) N1.out.lt).trans a2
  have a3 := (hb4.cell (p := ⟨w.heap.size, 3, none⟩) N1.out.lt).trans a3
  have a4 := (hb4.cell (p := ⟨bS, oS + m * 3, none⟩) hlS).trans a4
  have a5 := (hb4.cell (p := ⟨bS, oS + m * 3 + 1, none⟩) hlS).trans a5
  have a6 := (hb4.cell (p := ⟨bS, oS + m * 3 + 2, none⟩) hlS).trans a6
  have hlS := Nat.lt_of_lt_of_le hlS hb4.size
  clear hb4 y0 y1 y2
  by_cases hxn : ¬ (nx : Int) = kn
  · have b0 : ((nx : Int) != kn) = true := by simpa using hxn
    obtain ⟨rfl, rfl⟩ := NO.out (decide_eq_false fun q => hxn (by rw [LXX.out, HKN.out, HK.out]; exact q.2.1))
    clear hxn a0 a1 a2 a3 a4 a5 a6
    go_wp2_with fail
    go_ret2
    exact ⟨none, 0, 0, rfl, rfl, Rg.nil _ _ _, B4.out, Nat.le_refl _, Nat.zero_le _⟩
  have hxn : (nx : Int) = kn := Decidable.not_not.1 hxn
  have b0 : ((nx : Int) != kn) = false := by rw [hxn]; simp
  have hok : okL ⟨c, h, x, ls⟩ (j : Int) xs ws = true := decide_eq_true ⟨⟨HE.out, by omega, by show (j : Int) < (ls.length : Int); rw [← LX.out]; omega⟩, by rw [← LXX.out, ← HK.out, ← HKN.out]; exact hxn, by rw [← LWW.out]; exact HWN.out⟩
  obtain rfl : r = true := HR.out.symm.trans hok
  obtain rfl : us = layK K xs ws := by rw [← HUS.out, HK.out]; exact lay_yes hok
  have TH : Hid (∀ w', Rl w' A ls → Rg ucells w' X xs → Rg ucells w' W ws → Calls Try.prog 47 #[.agg #[.int .i64 c, .int .i64 h, .int .i64 x, .slice A n cA], .int .i64 (j : Int), .int .i64 (ku : Int), .slice X nx cX, .slice W nw cW] w' (RowTo ucells (layK K xs ws) w')) := fun w' z1 z2 z3 =>
    through_any c h x A X W cA n cX nx cW nw ls xs ws j ku K w' z1 LX.out hn z2 LXX.out z3 LWW.out HE.out jn HK.out (by rw [hxn, HKN.out]) HWN.out HKU.out
  have HC0 : Hid (Below w4.heap.size w4 w4.drew) := below_drew w4
  clear hxn hok
  go_wp2_with fail
  have tok1 : True := trivial
  go_region_held3 (fun w' => w'.cell? ⟨w.heap.size, 0, none⟩ = some (.int .i64 c) ∧ w'.cell? ⟨w.heap.size, 1, none⟩ = some (.int .i64 h) ∧ w'.cell? ⟨w.heap.size, 2, none⟩ = some (.int .i64 x) ∧ w'.cell? ⟨w.heap.size, 3, none⟩ = some (.slice A n cA) ∧ w'.cell? ⟨bS, oS + m * 3, none⟩ = some (.int .i64 K.u.c) ∧ w'.cell? ⟨bS, oS + m * 3 + 1, none⟩ = some (.int .i64 K.u.h) ∧ w'.cell? ⟨bS, oS + m * 3 + 2, none⟩ = some (.int .i64 K.u.x))
    (first | exact ⟨q0, q1, q2, q3, q4, q5, q6⟩ | go_keep)
    (first
      | ((have _t := tok1; clear tok1; go_at_call 46; (with_reducible refine (PS.out _).mono ?_); rintro e w2 ⟨rfl, hb2⟩
          have HC1 := Lib.hid (HC0.out.trans (hb2.mono HC0.out.size))
          have q0 := (HC1.out.cell (p := ⟨w.heap.size, 0, none⟩) lN).trans a0
          have q1 := (HC1.out.cell (p := ⟨w.heap.size, 1, none⟩) lN).trans a1
          have q2 := (HC1.out.cell (p := ⟨w.heap.size, 2, none⟩) lN).trans a2
          have q3 := (HC1.out.cell (p := ⟨w.heap.size, 3, none⟩) lN).trans a3
          have q4 := (HC1.out.cell (p := ⟨bS, oS + m * 3, none⟩) hlS).trans a4
          have q5 := (HC1.out.cell (p := ⟨bS, oS + m * 3 + 1, none⟩) hlS).trans a5
          have q6 := (HC1.out.cell (p := ⟨bS, oS + m * 3 + 2, none⟩) hlS).trans a6
          have tok2 : True := trivial
          clear hb2))
      | ((have _t := tok2; clear tok2; go_at_call 47; (with_reducible refine (TH.out _ (HX.out.below (chain B4.out HC1.out)) (HXR.out.below (chain B4.out HC1.out)) (HWR.out.below (chain B4.out HC1.out))).mono ?_); rintro e w3 ⟨A3, k3, n3, rfl, h31, h32, hb3, h34, h35⟩
          have HC2 := Lib.hid (HC1.out.trans (hb3.mono HC1.out.size))
          have H31 := Lib.hid h31; have H32 := Lib.hid h32; have H34 := Lib.hid h34; have H35 := Lib.hid h35
          clear q0 q1 q2 q3 q4 q5 q6
          have q0 := (HC2.out.cell (p := ⟨w.heap.size, 0, none⟩) lN).trans a0
          have q1 := (HC2.out.cell (p := ⟨w.heap.size, 1, none⟩) lN).trans a1
          have q2 := (HC2.out.cell (p := ⟨w.heap.size, 2, none⟩) lN).trans a2
          have q3 := (HC2.out.cell (p := ⟨w.heap.size, 3, none⟩) lN).trans a3
          have q4 := (HC2.out.cell (p := ⟨bS, oS + m * 3, none⟩) hlS).trans a4
          have q5 := (HC2.out.cell (p := ⟨bS, oS + m * 3 + 1, none⟩) hlS).trans a5
          have q6 := (HC2.out.cell (p := ⟨bS, oS + m * 3 + 2, none⟩) hlS).trans a6
          clear hb3 h31 h32 h34 h35))
      | fail)
  go_wp2_with fail
  go_ret2
  exact ⟨A3, k3, n3, rfl, H31.out, H32.out, chain B4.out HC2.out, H34.out, H35.out⟩

end Go.Proofs.Ytbcmhoomdackkaa

namespace Go.Proofs.Ytbcmhoomdackkaa
open Go.RowKit

theorem u_news {w : World} {b off : Nat} {us : List UInt64} (h : ∀ j u, (us.flatMap ucells)[j]? = some u → w.cell? ⟨b, off + j, none⟩ = some u) : ∀ j u, (us.flatMap ucells)[j]? = some u → w.cell? ((⟨b, off, none⟩ : Addr).add j) = some u := fun j u hu => by
  have ha : (⟨b, off, none⟩ : Addr).add j = ⟨b, off + j, none⟩ := by unfold Addr.add; split <;> simp_all
  rw [ha]; exact h j u hu
theorem u_ones (us : List UInt64) : ∀ u ∈ us.flatMap ucells, u.oneCell' = true := fun u hu => by
  obtain ⟨x, _, hx⟩ := List.mem_flatMap.1 hu
  exact ucells_one x u hx
theorem slice_nil (b o n c : Nat) (w : World) : (binOp .eql 44 (.slice (some ⟨b, o, none⟩) n c) (.slice none 0 0)).run Try.prog w = .ok (.bool false) w := by kernel_rfl
theorem own_voidU {w : World} {B g : Nat} (h : w.heap[g]? = some (.cells #[] 51 (0, 0))) (hB : B ≤ g) : w.ownsRow B 51 1 (.slice (some ⟨g, 0, none⟩) 0 0) 0 [] :=
  ⟨by simp, .inr ⟨g, 0, #[], rfl, hB, h, Nat.le_refl _, Nat.zero_le _, by simp, by simp⟩⟩

set_option maxHeartbeats 1000000 in
set_option maxRecDepth 100000 in
theorem clone_any (X : Option Addr) (cX nx : Nat) (xs : List UInt64) (w : World) (hX : Rg ucells w X xs) (lx : nx = xs.length) (h0 : 0 < nx) (h1 : nx ≤ 100000) :
    Calls Try.prog 49 #[.slice X nx cX] w (RowTo ucells xs w) := by
  obtain ⟨i0, hi, hz0, hz1, hz2⟩ := info_parts Try.info51
  obtain ⟨b, o, rfl, lb, q⟩ := hX (by omega)
  have hnil := slice_nil b o nx cX
  have Q := Lib.hid q; have LX := Lib.hid lx
  clear hX q lx
  go_enter Try.func49, Try.ntmps49
  go_wp2_with (at_builtin; refine wpList_append_own_at _ rfl _ _ 44 rfl w.heap.size 51 i0 (.int .u64 0) 1 8 Try.underlying44 hi hz0 hz1 hz2 rfl (by decide) _ 0 [] rfl (own_voidU (heap_alloc_new w _) (Nat.le_refl _)) ⟨b, o, none⟩ nx cX (xs.flatMap ucells) rfl ?c0 ?c1 (u_ones xs) ?c3 ?c4 ?c5 ?_)
  case c0 => rw [flat_len ucells_len, LX.out]
  case c1 => exact u_news fun j u hu => (((Below.refl _ w).alloc (Nat.le_refl _) _).cell (p := ⟨b, o + j, none⟩) lb).trans (Q.out j u hu)
  case c3 => unfold maxLen; omega
  case c4 => omega
  case c5 => first | omega | simp
  intro v' w4 hown2 hgrow hd1 hd2
  obtain ⟨A', c', rfl, e1, e2, e3, e4⟩ := own_cap ucells_len (by decide) hown2
  have R := Lib.hid e2; have C3 := Lib.hid e3; have C4 := Lib.hid e4
  have B4 : Hid (Below w.heap.size w w4) := ((Below.refl _ w).alloc (Nat.le_refl _) _).grown hgrow (by simp) (fun q hq => by simp [Value.ownBlock] at hq; omega)
  clear hown2 hgrow hd1 hd2 e1 e2 e3 e4
  go_wp2_with fail
  go_ret
  exact ⟨A', c', nx, rfl, LX.out, R.out, B4.out, C3.out, C4.out⟩

set_option maxHeartbeats 8000000 in
set_option maxRecDepth 100000 in
theorem F_any (c h x : Int) (A X W : Option Addr) (cA n cX nx cW nw : Nat) (ls : List Ly) (xs ws us : List UInt64) (r : Bool) (w : World) (hx : Rl w A ls) (ln : n = ls.length) (hn : n ≤ 1000) (hX : Rg ucells w X xs) (lx : nx = xs.length) (hW : Rg ucells w W ws) (lw : nw = ws.length) (hus : fN ⟨c, h, x, ls⟩ xs ws = us) (hr : okF ⟨c, h, x, ls⟩ xs ws = r) :
    Calls Try.prog 28 #[.agg #[.int .i64 c, .int .i64 h, .int .i64 x, .slice A n cA], .slice X nx cX, .slice W nw cW] w (PairTo us r w) := by
  have HX := Lib.hid hx; have LX := Lib.hid ln; have HXR := Lib.hid hX; have LXX := Lib.hid lx; have HWR := Lib.hid hW; have LWW := Lib.hid lw
  have NO : Hid (okF ⟨c, h, x, ls⟩ xs ws = false → r = false ∧ us = []) := fun e => ⟨hr.symm.trans e, by rw [← hus]; exact f_no e⟩
  have HUS := Lib.hid hus; have HR := Lib.hid hr
  obtain ⟨b, hb⟩ : ∃ b, fitB ⟨c, h, x, ls⟩ nw = b := ⟨_, rfl⟩
  have HB := Lib.hid hb
  clear hx ln hX lx hW lw hus hr hb
  go_enter Try.func28, Try.ntmps28
  go_wp2_with fail
  refine (fit_any c h x A W cA n cW nw ls b HB.out _ (HX.out.below ((Below.refl _ w).alloc (Nat.le_refl _) _)) LX.out hn).mono ?_
  rintro e w1 ⟨A1, k1, n1, rfl, hn1, hR, hb⟩
  have B1 := Lib.hid (chain ((Below.refl w.heap.size w).alloc (Nat.le_refl _) _) hb)
  have N1 := Lib.hid ((NB.new w c h x (.slice A n cA)).below hb)
  obtain ⟨a0, a1, a2, a3⟩ := N1.out.cells
  clear hb
  cases b
  · obtain ⟨rfl, rfl⟩ := NO.out (decide_eq_false fun q => of_decide_eq_false HB.out ⟨q.1, by rw [LWW.out]; exact q.2.2⟩)
    clear hn1 hR
    go_wp2_with fail
    go_ret2
    exact ⟨none, 0, 0, rfl, rfl, Rg.nil _ _ _, B1.out, Nat.le_refl _, Nat.zero_le _⟩
  obtain ⟨he, hw⟩ := of_decide_eq_true HB.out
  have r0 : (⟨c, h, x⟩ : Sh).r = true := (ok_all he).1
  have n8 : n ≤ 8 := by rw [LX.out]; exact (ok_all he).2.2.2.2.2
  rw [shN_ok he] at hR hn1
  rw [sh_len, ← LX.out] at hn1
  obtain ⟨bS, oS, rfl, hlS, hcS⟩ := hR (by rw [sh_len]; omega)
  have g1 := sh_get ls ⟨c, h, x⟩ 0 (by omega)
  rw [show endS ⟨c, h, x⟩ (ls.take 0) = ⟨c, h, x⟩ by rfl] at g1
  obtain ⟨y0, y1, y2⟩ := sh_at hcS g1
  rw [Nat.zero_mul, Nat.add_zero] at y0 y1 y2
  have n1p : (0 : Int) < (n1 : Int) := by omega
  have n1q : 0 < n1 := by omega
  have PI := Lib.hid (psize ⟨c, h, x⟩ r0)
  obtain ⟨kn, hkn⟩ : ∃ kn, kn = (⟨c, h, x⟩ : Sh).n := ⟨_, rfl⟩
  have HKN := Lib.hid hkn
  have kb := size_bd ⟨c, h, x⟩
  have kp := size_pos r0
  rw [← hkn] at PI kb kp
  have SR := Lib.hid hcS; have HE := Lib.hid he; have HWN := Lib.hid hw; have HN1 := Lib.hid hn1
  obtain ⟨kb0, kb1⟩ := kb
  clear hcS g1 hkn he hw r0 hn1
  go_wp2_with fail
  refine (PI.out _).mono ?_
  rintro e w4 ⟨rfl, hb4⟩
  have B4 := Lib.hid (chain B1.out hb4)
  have N4 := Lib.hid (N1.out.below hb4)
  clear a0 a1 a2 a3 y0 y1 y2
  obtain ⟨a0, a1, a2, a3⟩ := N4.out.cells
  have SR4 : Hid (∀ j u, ((shL ⟨c, h, x⟩ ls).flatMap scells)[j]? = some u → w4.cell? ⟨bS, oS + j, none⟩ = some u) := fun j u hu => (hb4.cell (p := ⟨bS, oS + j, none⟩) hlS).trans (SR.out j u hu)
  have hlS4 := Nat.lt_of_lt_of_le hlS hb4.size
  clear hb4 SR hlS N1
  by_cases hxn : ¬ (nx : Int) = kn
  · have b0 : ((nx : Int) != kn) = true := by simpa using hxn
    obtain ⟨rfl, rfl⟩ := NO.out (decide_eq_false fun q => hxn (by rw [LXX.out, HKN.out]; exact q.2.1))
    clear hxn a0 a1 a2 a3
    go_wp2_with fail
    go_ret2
    exact ⟨none, 0, 0, rfl, rfl, Rg.nil _ _ _, B4.out, Nat.le_refl _, Nat.zero_le _⟩
  have hxn : (nx : Int) = kn := Decidable.not_not.1 hxn
  have b0 : ((nx : Int) != kn) = false := by rw [hxn]; simp
  have hok : okF ⟨c, h, x, ls⟩ xs ws = true := decide_eq_true ⟨HE.out, by rw [← LXX.out, hxn]; exact HKN.out, by rw [← LWW.out]; exact HWN.out⟩
  obtain rfl : r = true := HR.out.symm.trans hok
  obtain rfl : us = runN ⟨c, h, x, ls⟩ ws ls.length xs := by rw [← HUS.out]; exact f_yes hok
  have nx0 : 0 < nx := by omega
  have nx1 : nx ≤ 100000 := by omega
  have HOK := Lib.hid hok
  clear hxn hok kb0 kb1 kp
  go_wp2_with fail
  refine (clone_any X cX nx xs _ (HXR.out.below B4.out) LXX.out nx0 nx1).mono ?_
  rintro e w5 ⟨A5, k5, n5, rfl, h51, h52, hb5, h54, h55⟩
  have B5 := Lib.hid (chain B4.out hb5)
  have N5 := Lib.hid (N4.out.below hb5)
  have SR5 : Hid (∀ j u, ((shL ⟨c, h, x⟩ ls).flatMap scells)[j]? = some u → w5.cell? ⟨bS, oS + j, none⟩ = some u) := fun j u hu => (hb5.cell (p := ⟨bS, oS + j, none⟩) hlS4).trans (SR4.out j u hu)
  have hlS5 := Nat.lt_of_lt_of_le hlS4 hb5.size
  have Y0 : Hid (∃ A' k' n', (Value.slice A5 n5 k5) = .slice A' n' k' ∧ n' = (runN ⟨c, h, x, ls⟩ ws 0 xs).length ∧ Rg ucells w5 A' (runN ⟨c, h, x, ls⟩ ws 0 xs) ∧ n' ≤ k' ∧ k' ≤ maxLen) := ⟨A5, k5, n5, rfl, h51, h52, h54, h55⟩
  clear a0 a1 a2 a3 h51 h52 h54 h55 hb5 N4 SR4 hlS4 B4
  obtain ⟨a0, a1, a2, a3⟩ := N5.out.cells
  go_wp2_with fail
  clear a0 a1 a2 a3
  go_loopg [10, 11, 34] n (fun g s10 _ s34 wx => ∃ k : Nat, k ≤ n ∧ Hid (g = n - k) ∧ s34 = .int .i64 (k : Int) ∧ Hid (∃ A' k' n', s10 = .slice A' n' k' ∧ n' = (runN ⟨c, h, x, ls⟩ ws k xs).length ∧ Rg ucells wx A' (runN ⟨c, h, x, ls⟩ ws k xs) ∧ n' ≤ k' ∧ k' ≤ maxLen) ∧ Hid (Below w5.heap.size w5 wx))
  case atStart => exact ⟨0, by omega, by show _ = _; omega, rfl, Y0, Below.refl _ _⟩
  case round =>
    obtain ⟨j, hj, HG, rfl, YK, BK⟩ := hrel
    obtain ⟨A6, k6, n6, rfl, h61, h62, h64, h65⟩ := YK.out
    have Y1 := Lib.hid h61; have Y2 := Lib.hid h62; have Y4 := Lib.hid h64; have Y5 := Lib.hid h65
    have BW := Lib.hid (chain B5.out BK.out)
    have N6 := Lib.hid (N5.out.below BK.out)
    obtain ⟨a0, a1, a2, a3⟩ := N6.out.cells
    have lN := N6.out.lt
    have lS := Nat.lt_of_lt_of_le hlS5 BK.out.size
    clear h61 h62 h64 h65 YK
    by_cases jn : j < n
    · have jb : (j : Int) < (n : Int) := by omega
      have hjl : j < ls.length := by rw [← LX.out]; exact jn
      have hl := get_ly hjl
      obtain ⟨K, hK⟩ : ∃ K, K = atN ⟨c, h, x, ls⟩ (j : Nat) := ⟨_, rfl⟩
      have hKe := hK.trans (at_some HE.out hl)
      have g2 := sh_get ls ⟨c, h, x⟩ (j + 1) (by omega)
      rw [show endS ⟨c, h, x⟩ (ls.take (j + 1)) = K.u by rw [hKe, run_end c h x ls hl]] at g2
      obtain ⟨p4, p5, p6⟩ := sh_at SR5.out g2
      have a4 := (BK.out.cell (p := ⟨bS, oS + (j + 1) * 3, none⟩) hlS5).trans p4
      have a5 := (BK.out.cell (p := ⟨bS, oS + (j + 1) * 3 + 1, none⟩) hlS5).trans p5
      have a6 := (BK.out.cell (p := ⟨bS, oS + (j + 1) * 3 + 2, none⟩) hlS5).trans p6
      obtain ⟨m, hm⟩ : ∃ m, m = j + 1 := ⟨_, rfl⟩
      rw [← hm] at a4 a5 a6
      have GD : Good K := by rw [hK]; exact good_at (isB_yes ⟨HE.out, by omega, by show (j : Int) < (ls.length : Int); omega⟩)
      have ja : (0 : Int) ≤ (j : Int) := by omega
      have ma : (0 : Int) ≤ (m : Int) := by omega
      have hn1 := HN1.out
      have mb : (m : Int) < (n1 : Int) := by omega
      have mb' : m < n1 := by omega
      have v1 : IntKind.i64.wrap ((j : Int) + 1) = (m : Int) := next_i64 hm (Nat.lt_succ_self j) (by omega)
      have v2 : wrap64 ((j : Int) + 1) = (m : Int) := next_wrap hm (Nat.lt_succ_self j) (by omega)
      have PS := Lib.hid (psize K.u GD.ur)
      have un := size_bd K.u
      obtain ⟨ku, hku⟩ : ∃ ku : Nat, K.u.n = ku := ⟨K.u.n.toNat, by omega⟩
      rw [hku] at PS
      have okl := (okL_out (run_ok HOK.out hjl)).2.1
      rw [← hK] at okl
      have HKU := Lib.hid hku; have HK := Lib.hid hK; have OKL := Lib.hid okl
      have TH : Hid (∀ w', Rl w' A ls → Rg ucells w' A6 (runN ⟨c, h, x, ls⟩ ws j xs) → Rg ucells w' W ws → Calls Try.prog 47 #[.agg #[.int .i64 c, .int .i64 h, .int .i64 x, .slice A n cA], .int .i64 (j : Int), .int .i64 (ku : Int), .slice A6 n6 k6, .slice W nw cW] w' (RowTo ucells (layK K (runN ⟨c, h, x, ls⟩ ws j xs) ws) w')) := fun w' z1 z2 z3 =>
        through_any c h x A A6 W cA n k6 n6 cW nw ls _ ws j ku K w' z1 LX.out hn z2 Y1.out z3 LWW.out HE.out jn HK.out (by rw [Y1.out]; exact OKL.out) HWN.out HKU.out
      have HC0 : Hid (Below wr.heap.size wr wr.drew) := below_drew wr
      have HM := Lib.hid hm
      clear hl hK hKe g2 p4 p5 p6 hm GD un hku okl hn1
      go_wp2_with fail
      have tok1 : True := trivial
      go_region_held3 (fun w' => w'.cell? ⟨w.heap.size, 0, none⟩ = some (.int .i64 c) ∧ w'.cell? ⟨w.heap.size, 1, none⟩ = some (.int .i64 h) ∧ w'.cell? ⟨w.heap.size, 2, none⟩ = some (.int .i64 x) ∧ w'.cell? ⟨w.heap.size, 3, none⟩ = some (.slice A n cA) ∧ w'.cell? ⟨bS, oS + m * 3, none⟩ = some (.int .i64 K.u.c) ∧ w'.cell? ⟨bS, oS + m * 3 + 1, none⟩ = some (.int .i64 K.u.h) ∧ w'.cell? ⟨bS, oS + m * 3 + 2, none⟩ = some (.int .i64 K.u.x))
        (first | exact ⟨q0, q1, q2, q3, q4, q5, q6⟩ | go_keep)
        (first
          | ((have _t := tok1; clear tok1; go_at_call 46; (with_reducible refine (PS.out _).mono ?_); rintro e w2 ⟨rfl, hb2⟩
              have HC1 := Lib.hid (HC0.out.trans (hb2.mono HC0.out.size))
              have q0 := (HC1.out.cell (p := ⟨w.heap.size, 0, none⟩) lN).trans a0
              have q1 := (HC1.out.cell (p := ⟨w.heap.size, 1, none⟩) lN).trans a1
              have q2 := (HC1.out.cell (p := ⟨w.heap.size, 2, none⟩) lN).trans a2
              have q3 := (HC1.out.cell (p := ⟨w.heap.size, 3, none⟩) lN).trans a3
              have q4 := (HC1.out.cell (p := ⟨bS, oS + m * 3, none⟩) lS).trans a4
              have q5 := (HC1.out.cell (p := ⟨bS, oS + m * 3 + 1, none⟩) lS).trans a5
              have q6 := (HC1.out.cell (p := ⟨bS, oS + m * 3 + 2, none⟩) lS).trans a6
              have tok2 : True := trivial
              clear hb2))
          | ((have _t := tok2; clear tok2; go_at_call 47; (with_reducible refine (TH.out _ (HX.out.below (chain BW.out HC1.out)) (Y2.out.below HC1.out) (HWR.out.below (chain BW.out HC1.out))).mono ?_); rintro e w3 ⟨A3, k3, n3, rfl, h31, h32, hb3, h34, h35⟩
              have HC2 := Lib.hid (HC1.out.trans (hb3.mono HC1.out.size))
              have H31 := Lib.hid h31; have H32 := Lib.hid h32; have H34 := Lib.hid h34; have H35 := Lib.hid h35
              clear q0 q1 q2 q3 q4 q5 q6
              have q0 := (HC2.out.cell (p := ⟨w.heap.size, 0, none⟩) lN).trans a0
              have q1 := (HC2.out.cell (p := ⟨w.heap.size, 1, none⟩) lN).trans a1
              have q2 := (HC2.out.cell (p := ⟨w.heap.size, 2, none⟩) lN).trans a2
              have q3 := (HC2.out.cell (p := ⟨w.heap.size, 3, none⟩) lN).trans a3
              have q4 := (HC2.out.cell (p := ⟨bS, oS + m * 3, none⟩) lS).trans a4
              have q5 := (HC2.out.cell (p := ⟨bS, oS + m * 3 + 1, none⟩) lS).trans a5
              have q6 := (HC2.out.cell (p := ⟨bS, oS + m * 3 + 2, none⟩) lS).trans a6
              clear hb3 h31 h32 h34 h35))
          | fail)
      go_wp2_with fail
      go_roundg (n - (j + 1))
      case measure => have := HG.out; omega
      case rel => exact ⟨j + 1, by omega, rfl, by rw [HM.out], ⟨A3, k3, n3, rfl, by rw [H31.out, runN, HK.out], by rw [runN, ← HK.out]; exact H32.out, H34.out, H35.out⟩, chain BK.out HC2.out⟩
    · obtain rfl : j = n := by omega
      clear a0 a1 a2 a3
      go_wp2_with fail
      go_ret2
      exact ⟨A6, k6, n6, rfl, by rw [← LX.out]; exact Y1.out, by rw [← LX.out]; exact Y2.out, BW.out, Y4.out, Y5.out⟩

end Go.Proofs.Ytbcmhoomdackkaa
