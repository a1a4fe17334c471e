/-
  EvalApart, of any network, any party, any number of 64 bits, any number of 8 bits and any four rows of numbers, returns true, and each argument reads afterwards as it read before; no condition.
-/
import Derived.Test.YtklgjhldebdegaaGreatB17
import Derived.Deep.RegionHeld3
namespace Go.Proofs.YtklgjhldebdegaaGreat
open Go.RowKit

set_option maxHeartbeats 8000000 in
set_option maxRecDepth 100000 in
theorem law_eapart (c h x : Int) (A : Option Addr) (cA n : Nat) (ls : List Ly) (a : Int) (z : UInt64) (s : Int) (X : Option Addr) (cX nx : Nat) (xs : List UInt64) (U : Option Addr) (cU nu : Nat) (us : List UInt64) (W : Option Addr) (cW nw : Nat) (ws : List UInt64) (V : Option Addr) (cV nv : Nat) (vs : List UInt64) (w : World) (hx : Rl w A ls) (ln : n = ls.length) (bs : 0 ≤ s ∧ s ≤ 255) (hX : Rg ucells w X xs) (lX : nx = xs.length) (hU : Rg ucells w U us) (lU : nu = us.length) (hW : Rg ucells w W ws) (lW : nw = ws.length) (hV : Rg ucells w V vs) (lV : nv = vs.length) :
    Calls Tryz.prog 6 #[.agg #[.int .i64 c, .int .i64 h, .int .i64 x, .slice A n cA], .int .i64 a, .int .u64 (uz z), .int .u8 s, .slice X nx cX, .slice U nu cU, .slice W nw cW, .slice V nv cV] w fun e w' => e = .returned (.bool true) ∧ Below w.heap.size w w' := by
  have HRL := Lib.hid hx; have LRL := Lib.hid ln
  have HX := Lib.hid hX; have LX := Lib.hid lX
  have HU := Lib.hid hU; have LU := Lib.hid lU
  have HW := Lib.hid hW; have LW := Lib.hid lW
  have HV := Lib.hid hV; have LV := Lib.hid lV
  clear hx ln hX lX hU lU hW lW hV lV
  obtain ⟨kk, hkk⟩ : ∃ kk : Nat, s % 9 = kk := ⟨(s % 9).toNat, by omega⟩
  obtain ⟨bs0, bs1⟩ := bs
  have kk9 : kk < 9 := by omega
  by_cases hg : 60 < n ∨ 3000 < nx ∨ 3000 < nu ∨ 3000 < nw ∨ 3000 < nv
  · have hgr : (anyB [⟨X, nx, cX⟩, ⟨U, nu, cU⟩, ⟨W, nw, cW⟩, ⟨V, nv, cV⟩] || decide (60 < (n : Int))) = true := by unfold anyB; simp; omega
    go_enter Tryz.func6, Tryz.ntmps6
    go_wp2_with fail
    refine (head13_any _).mono ?_
    rintro e w1 ⟨rfl, hb⟩
    have B1 := Lib.hid (chain ((Below.refl w.heap.size w).alloc (Nat.le_refl _) _) hb)
    have N1 := Lib.hid ((NB.new w c h x (.slice A n cA)).below hb)
    clear hb
    obtain ⟨c0, c1, c2, c3⟩ := N1.out.cells
    have nl := N1.out.lt
    go_wp2_with fail
    refine (great13 c h x A cA n _ 4 _ [⟨X, nx, cX⟩, ⟨U, nu, cU⟩, ⟨W, nw, cW⟩, ⟨V, nv, cV⟩] _ true hgr (rg_block (heap_alloc_new _ _) rfl) rfl (by decide)).mono ?_
    rintro e w2 ⟨rfl, hb⟩
    replace hb := ((Below.refl w1.heap.size w1).alloc (Nat.le_refl _) _).trans (hb.mono (by simp))
    have B2 := Lib.hid (chain B1.out hb)
    have N2 := Lib.hid (N1.out.below hb)
    clear hb c0 c1 c2 c3 nl B1 N1
    obtain ⟨c0, c1, c2, c3⟩ := N2.out.cells
    have nl := N2.out.lt
    go_wp2_with fail
    go_ret
    exact ⟨rfl, B2.out⟩
  have hgr : (anyB [⟨X, nx, cX⟩, ⟨U, nu, cU⟩, ⟨W, nw, cW⟩, ⟨V, nv, cV⟩] || decide (60 < (n : Int))) = false := by unfold anyB; simp; omega
  have hn60 : n ≤ 60 := by omega
  have hn1 : n ≤ 1000 := by omega
  have bX : nx ≤ 3000 := by omega
  have bU : nu ≤ 3000 := by omega
  have bW : nw ≤ 3000 := by omega
  have bV : nv ≤ 3000 := by omega
  clear hg
  by_cases hS : (stagesN ⟨c, h, x, ls⟩).length ≤ kk
  · skip
    go_enter Tryz.func6, Tryz.ntmps6
    go_wp2_with fail
    refine (head13_any _).mono ?_
    rintro e w1 ⟨rfl, hb⟩
    have B1 := Lib.hid (chain ((Below.refl w.heap.size w).alloc (Nat.le_refl _) _) hb)
    have N1 := Lib.hid ((NB.new w c h x (.slice A n cA)).below hb)
    clear hb
    obtain ⟨c0, c1, c2, c3⟩ := N1.out.cells
    have nl := N1.out.lt
    go_wp2_with fail
    refine (great13 c h x A cA n _ 4 _ [⟨X, nx, cX⟩, ⟨U, nu, cU⟩, ⟨W, nw, cW⟩, ⟨V, nv, cV⟩] _ false hgr (rg_block (heap_alloc_new _ _) rfl) rfl (by decide)).mono ?_
    rintro e w2 ⟨rfl, hb⟩
    replace hb := ((Below.refl w1.heap.size w1).alloc (Nat.le_refl _) _).trans (hb.mono (by simp))
    have B2 := Lib.hid (chain B1.out hb)
    have N2 := Lib.hid (N1.out.below hb)
    clear hb c0 c1 c2 c3 nl B1 N1
    obtain ⟨c0, c1, c2, c3⟩ := N2.out.cells
    have nl := N2.out.lt
    go_wp2_with fail
    refine (rstages8 c h x A cA n ls _ (HRL.out.below B2.out) LRL.out hn60).mono ?_
    rintro e w3 ⟨AS, kS, nS, rfl, hnS, hRS, hb, hd1, hd2⟩
    have MS := Lib.hid hnS
    clear hnS hRS hd1 hd2
    have B3 := Lib.hid (chain B2.out hb)
    have N3 := Lib.hid (N2.out.below hb)
    clear hb c0 c1 c2 c3 nl B2 N2
    obtain ⟨c0, c1, c2, c3⟩ := N3.out.cells
    have nl := N3.out.lt
    have dS : nS ≤ kk := by rw [MS.out]; exact hS
    clear hS
    go_wp2_with fail
    go_ret
    exact ⟨rfl, B3.out⟩
  have hS := Nat.lt_of_not_le hS
  obtain ⟨la, hla⟩ : ∃ q, q = lineU ⟨c, h, x, ls⟩ a z (kk : Int) xs ws := ⟨_, rfl⟩
  obtain ⟨ba, hba⟩ : ∃ q, q = okLn ⟨c, h, x, ls⟩ (kk : Int) xs ws := ⟨_, rfl⟩
  have Hla := Lib.hid hla; have Hba := Lib.hid hba
  obtain ⟨lb, hlb⟩ : ∃ q, q = lineU ⟨c, h, x, ls⟩ a z (kk : Int) us vs := ⟨_, rfl⟩
  obtain ⟨bb, hbb⟩ : ∃ q, q = okLn ⟨c, h, x, ls⟩ (kk : Int) us vs := ⟨_, rfl⟩
  have Hlb := Lib.hid hlb; have Hbb := Lib.hid hbb
  have CA : Hid (∀ (X : Option Addr) (cX nx : Nat) (Y : Option Addr) (cY ny : Nat) (w' : World), Rl w' A ls → Rg ucells w' X xs → nx = (xs).length → Rg ucells w' Y ws → ny = (ws).length → Calls Tryz.prog 13 #[.agg #[.int .i64 c, .int .i64 h, .int .i64 x, .slice A n cA], .int .i64 a, .int .u64 (uz z), .int .i64 (kk : Int), .slice X nx cX, .slice Y ny cY] w' (PairTo la ba w')) := fun X cX nx Y cY ny w' z0 z1 z2 z3 z4 => by rw [hla, hba]; exact line13 c h x A X Y cA n cX nx cY ny ls xs ws a z (kk : Int) w' z0 LRL.out hn60 z1 z2 z3 z4
  have CB : Hid (∀ (X : Option Addr) (cX nx : Nat) (Y : Option Addr) (cY ny : Nat) (w' : World), Rl w' A ls → Rg ucells w' X us → nx = (us).length → Rg ucells w' Y vs → ny = (vs).length → Calls Tryz.prog 13 #[.agg #[.int .i64 c, .int .i64 h, .int .i64 x, .slice A n cA], .int .i64 a, .int .u64 (uz z), .int .i64 (kk : Int), .slice X nx cX, .slice Y ny cY] w' (PairTo lb bb w')) := fun X cX nx Y cY ny w' z0 z1 z2 z3 z4 => by rw [hlb, hbb]; exact line13 c h x A X Y cA n cX nx cY ny ls us vs a z (kk : Int) w' z0 LRL.out hn60 z1 z2 z3 z4
  have KS := Lib.hid hS
  obtain ⟨f, m, RNG⟩ : ∃ f m : Nat, Hid (rangeN ⟨c, h, x, ls⟩ (kk : Int) = ((f : Int), (m : Int))) := by
    refine ⟨fromN ⟨c, h, x, ls⟩ kk, manyN ⟨c, h, x, ls⟩ kk, ?_⟩
    show _ = _
    have r := range_yes hS
    have q1 : 0 ≤ totP (((stagesN ⟨c, h, x, ls⟩).take kk).map (atN ⟨c, h, x, ls⟩)) := (tot_bd _ (fun y hy => by obtain ⟨i, _, rfl⟩ := List.mem_map.1 hy; exact at_ok _ _)).2.2.1
    have q2 : 0 ≤ (atN ⟨c, h, x, ls⟩ ((stagesN ⟨c, h, x, ls⟩).getD kk 0)).p := (KnOk.p (at_ok _ _)).1
    have e1 : ((fromN ⟨c, h, x, ls⟩ kk : Nat) : Int) = (rangeN ⟨c, h, x, ls⟩ (kk : Int)).1 := by unfold fromN; rw [r]; show ((totP _).toNat : Int) = totP _; omega
    have e2 : ((manyN ⟨c, h, x, ls⟩ kk : Nat) : Int) = (rangeN ⟨c, h, x, ls⟩ (kk : Int)).2 := by unfold manyN; rw [r]; show ((Kn.p _).toNat : Int) = Kn.p _; omega
    rw [e1, e2]
  have HF : Hid (f = fromN ⟨c, h, x, ls⟩ kk) := by show _ = _; unfold fromN; rw [RNG.out]; simp
  have HM : Hid (m = manyN ⟨c, h, x, ls⟩ kk) := by show _ = _; unfold manyN; rw [RNG.out]; simp
  clear hS
  by_cases tba : ba = true
  case neg =>
    obtain rfl : ba = false := by simpa using tba
    clear tba
    clear hla hlb hba hbb
    go_enter Tryz.func6, Tryz.ntmps6
    go_wp2_with fail
    refine (head13_any _).mono ?_
    rintro e w1 ⟨rfl, hb⟩
    have B1 := Lib.hid (chain ((Below.refl w.heap.size w).alloc (Nat.le_refl _) _) hb)
    have N1 := Lib.hid ((NB.new w c h x (.slice A n cA)).below hb)
    clear hb
    obtain ⟨c0, c1, c2, c3⟩ := N1.out.cells
    have nl := N1.out.lt
    go_wp2_with fail
    refine (great13 c h x A cA n _ 4 _ [⟨X, nx, cX⟩, ⟨U, nu, cU⟩, ⟨W, nw, cW⟩, ⟨V, nv, cV⟩] _ false hgr (rg_block (heap_alloc_new _ _) rfl) rfl (by decide)).mono ?_
    rintro e w2 ⟨rfl, hb⟩
    replace hb := ((Below.refl w1.heap.size w1).alloc (Nat.le_refl _) _).trans (hb.mono (by simp))
    have B2 := Lib.hid (chain B1.out hb)
    have N2 := Lib.hid (N1.out.below hb)
    clear hb c0 c1 c2 c3 nl B1 N1
    obtain ⟨c0, c1, c2, c3⟩ := N2.out.cells
    have nl := N2.out.lt
    go_wp2_with fail
    refine (rstages8 c h x A cA n ls _ (HRL.out.below B2.out) LRL.out hn60).mono ?_
    rintro e w3 ⟨AS, kS, nS, rfl, hnS, hRS, hb, hd1, hd2⟩
    have MS := Lib.hid hnS
    clear hnS hRS hd1 hd2
    have B3 := Lib.hid (chain B2.out hb)
    have N3 := Lib.hid (N2.out.below hb)
    clear hb c0 c1 c2 c3 nl B2 N2
    obtain ⟨c0, c1, c2, c3⟩ := N3.out.cells
    have nl := N3.out.lt
    have dS : nS ≤ kk → False := by rw [MS.out]; exact Nat.not_le.2 KS.out
    have dS2 : decide (nS ≤ kk) = false := decide_eq_false dS
    clear dS
    go_wp2_with fail
    refine (CA.out X cX nx W cW nw _ (HRL.out.below B3.out) (HX.out.below B3.out) LX.out (HW.out.below B3.out) LW.out).mono ?_
    rintro e w4 ⟨Aa, ka, na, rfl, h1, h2, hb, h4, h5⟩
    have Ma := Lib.hid h1; have Qa := Lib.hid h2
    clear h1 h2 h4 h5
    have B4 := Lib.hid (chain B3.out hb)
    have N4 := Lib.hid (N3.out.below hb)
    clear hb c0 c1 c2 c3 nl B3 N3
    obtain ⟨c0, c1, c2, c3⟩ := N4.out.cells
    have nl := N4.out.lt
    go_wp2_with fail
    refine (CB.out U cU nu V cV nv _ (HRL.out.below B4.out) (HU.out.below B4.out) LU.out (HV.out.below B4.out) LV.out).mono ?_
    rintro e w5 ⟨Ab, kb, nb, rfl, h1, h2, hb, h4, h5⟩
    have Mb := Lib.hid h1; have Qb := Lib.hid h2
    clear h1 h2 h4 h5
    have B5 := Lib.hid (chain B4.out hb)
    have N5 := Lib.hid (N4.out.below hb)
    replace Qa := Lib.hid (Qa.out.below hb)
    clear hb c0 c1 c2 c3 nl B4 N4
    obtain ⟨c0, c1, c2, c3⟩ := N5.out.cells
    have nl := N5.out.lt
    go_wp2_with fail
    refine (rrange8 c h x A cA n ls (kk : Int) (f : Int) (m : Int) RNG.out _ (HRL.out.below B5.out) LRL.out hn60).mono ?_
    rintro e w6 ⟨rfl, hb⟩
    have B6 := Lib.hid (chain B5.out hb)
    have N6 := Lib.hid (N5.out.below hb)
    replace Qa := Lib.hid (Qa.out.below hb)
    replace Qb := Lib.hid (Qb.out.below hb)
    clear hb c0 c1 c2 c3 nl B5 N5
    obtain ⟨c0, c1, c2, c3⟩ := N6.out.cells
    have nl := N6.out.lt
    go_wp2_with fail
    go_ret
    exact ⟨rfl, B6.out⟩
  subst tba
  by_cases tbb : bb = true
  case neg =>
    obtain rfl : bb = false := by simpa using tbb
    clear tbb
    clear hla hlb hba hbb
    go_enter Tryz.func6, Tryz.ntmps6
    go_wp2_with fail
    refine (head13_any _).mono ?_
    rintro e w1 ⟨rfl, hb⟩
    have B1 := Lib.hid (chain ((Below.refl w.heap.size w).alloc (Nat.le_refl _) _) hb)
    have N1 := Lib.hid ((NB.new w c h x (.slice A n cA)).below hb)
    clear hb
    obtain ⟨c0, c1, c2, c3⟩ := N1.out.cells
    have nl := N1.out.lt
    go_wp2_with fail
    refine (great13 c h x A cA n _ 4 _ [⟨X, nx, cX⟩, ⟨U, nu, cU⟩, ⟨W, nw, cW⟩, ⟨V, nv, cV⟩] _ false hgr (rg_block (heap_alloc_new _ _) rfl) rfl (by decide)).mono ?_
    rintro e w2 ⟨rfl, hb⟩
    replace hb := ((Below.refl w1.heap.size w1).alloc (Nat.le_refl _) _).trans (hb.mono (by simp))
    have B2 := Lib.hid (chain B1.out hb)
    have N2 := Lib.hid (N1.out.below hb)
    clear hb c0 c1 c2 c3 nl B1 N1
    obtain ⟨c0, c1, c2, c3⟩ := N2.out.cells
    have nl := N2.out.lt
    go_wp2_with fail
    refine (rstages8 c h x A cA n ls _ (HRL.out.below B2.out) LRL.out hn60).mono ?_
    rintro e w3 ⟨AS, kS, nS, rfl, hnS, hRS, hb, hd1, hd2⟩
    have MS := Lib.hid hnS
    clear hnS hRS hd1 hd2
    have B3 := Lib.hid (chain B2.out hb)
    have N3 := Lib.hid (N2.out.below hb)
    clear hb c0 c1 c2 c3 nl B2 N2
    obtain ⟨c0, c1, c2, c3⟩ := N3.out.cells
    have nl := N3.out.lt
    have dS : nS ≤ kk → False := by rw [MS.out]; exact Nat.not_le.2 KS.out
    have dS2 : decide (nS ≤ kk) = false := decide_eq_false dS
    clear dS
    go_wp2_with fail
    refine (CA.out X cX nx W cW nw _ (HRL.out.below B3.out) (HX.out.below B3.out) LX.out (HW.out.below B3.out) LW.out).mono ?_
    rintro e w4 ⟨Aa, ka, na, rfl, h1, h2, hb, h4, h5⟩
    have Ma := Lib.hid h1; have Qa := Lib.hid h2
    clear h1 h2 h4 h5
    have B4 := Lib.hid (chain B3.out hb)
    have N4 := Lib.hid (N3.out.below hb)
    clear hb c0 c1 c2 c3 nl B3 N3
    obtain ⟨c0, c1, c2, c3⟩ := N4.out.cells
    have nl := N4.out.lt
    go_wp2_with fail
    refine (CB.out U cU nu V cV nv _ (HRL.out.below B4.out) (HU.out.below B4.out) LU.out (HV.out.below B4.out) LV.out).mono ?_
    rintro e w5 ⟨Ab, kb, nb, rfl, h1, h2, hb, h4, h5⟩
    have Mb := Lib.hid h1; have Qb := Lib.hid h2
    clear h1 h2 h4 h5
    have B5 := Lib.hid (chain B4.out hb)
    have N5 := Lib.hid (N4.out.below hb)
    replace Qa := Lib.hid (Qa.out.below hb)
    clear hb c0 c1 c2 c3 nl B4 N4
    obtain ⟨c0, c1, c2, c3⟩ := N5.out.cells
    have nl := N5.out.lt
    go_wp2_with fail
    refine (rrange8 c h x A cA n ls (kk : Int) (f : Int) (m : Int) RNG.out _ (HRL.out.below B5.out) LRL.out hn60).mono ?_
    rintro e w6 ⟨rfl, hb⟩
    have B6 := Lib.hid (chain B5.out hb)
    have N6 := Lib.hid (N5.out.below hb)
    replace Qa := Lib.hid (Qa.out.below hb)
    replace Qb := Lib.hid (Qb.out.below hb)
    clear hb c0 c1 c2 c3 nl B5 N5
    obtain ⟨c0, c1, c2, c3⟩ := N6.out.cells
    have nl := N6.out.lt
    go_wp2_with fail
    go_ret
    exact ⟨rfl, B6.out⟩
  subst tbb
  have oa : okLn ⟨c, h, x, ls⟩ (kk : Int) xs ws = true := hba.symm
  have ob : okLn ⟨c, h, x, ls⟩ (kk : Int) us vs = true := hbb.symm
  obtain ⟨i1, i2, i3⟩ := okLn_out oa
  obtain ⟨j1, j2, j3⟩ := okLn_out ob
  have he := (isSt_out i1).1
  have hne : ¬ ((kk : Int) = ((stagesN ⟨c, h, x, ls⟩).length : Int)) := by have := KS.out; omega
  obtain ⟨opx, hopx⟩ : ∃ q, q = opA ⟨c, h, x, ls⟩ a z f xs ws := ⟨_, rfl⟩
  obtain ⟨opy, hopy⟩ : ∃ q, q = opA ⟨c, h, x, ls⟩ a z f us vs := ⟨_, rfl⟩
  have EA : Hid (la = sayL opx m) := by show _ = _; rw [hla]; unfold lineU; rw [if_pos oa, if_neg hne, Int.toNat_natCast, hopx, HF.out, HM.out]; rfl
  have EB : Hid (lb = sayL opy m) := by show _ = _; rw [hlb]; unfold lineU; rw [if_pos ob, if_neg hne, Int.toNat_natCast, hopy, HF.out, HM.out]; rfl
  have bd := many_bd he KS.out
  have gb := gates_bd (c := c) (h := h) (x := x) (ls := ls)
  rw [← HF.out, ← HM.out] at bd
  have GL : Hid (f + m ≤ (gatesN ⟨c, h, x, ls⟩).length) := bd
  have m5 : f + m ≤ 512 := by omega
  have GI : Hid (∀ j : Nat, j < m → 0 ≤ (gtN ⟨c, h, x, ls⟩ (f + j)).x ∧ (gtN ⟨c, h, x, ls⟩ (f + j)).x < (nx : Int) ∧ (gtN ⟨c, h, x, ls⟩ (f + j)).x < (nu : Int) ∧ (gtN ⟨c, h, x, ls⟩ (f + j)).w < (nw : Int) ∧ (gtN ⟨c, h, x, ls⟩ (f + j)).w < (nv : Int)) := fun j hj => by
    have := gate_in he KS.out (j := j) (by rw [← HM.out]; exact hj)
    rw [← HF.out] at this
    obtain ⟨t1, t2, t3, _⟩ := this
    refine ⟨t1, by rw [LX.out, i2]; exact t2, by rw [LU.out, j2]; exact t2, by rw [LW.out, i3]; exact t3, by rw [LV.out, j3]; exact t3⟩
  have OX := Lib.hid hopx; have OY := Lib.hid hopy
  have dm : IntKind.i64.wrap (2 * (m : Int)) = ((2 * m : Nat) : Int) := by rw [IntWalk.i64_in _ (by omega)]; omega
  have dm2 : wrap64 (2 * (m : Int)) = ((2 * m : Nat) : Int) := by rw [IntWalk.wrap64_in _ (by omega)]; omega
  have DM := Lib.hid dm; have DM2 := Lib.hid dm2
  clear hla hba hlb hbb oa ob i1 i2 i3 j1 j2 j3 he hne hopx hopy bd gb dm dm2 Hba Hbb Hla Hlb
  go_enter Tryz.func6, Tryz.ntmps6
  go_wp2_with fail
  refine (head13_any _).mono ?_
  rintro e w1 ⟨rfl, hb⟩
  have B1 := Lib.hid (chain ((Below.refl w.heap.size w).alloc (Nat.le_refl _) _) hb)
  have N1 := Lib.hid ((NB.new w c h x (.slice A n cA)).below hb)
  clear hb
  obtain ⟨c0, c1, c2, c3⟩ := N1.out.cells
  have nl := N1.out.lt
  go_wp2_with fail
  refine (great13 c h x A cA n _ 4 _ [⟨X, nx, cX⟩, ⟨U, nu, cU⟩, ⟨W, nw, cW⟩, ⟨V, nv, cV⟩] _ false hgr (rg_block (heap_alloc_new _ _) rfl) rfl (by decide)).mono ?_
  rintro e w2 ⟨rfl, hb⟩
  replace hb := ((Below.refl w1.heap.size w1).alloc (Nat.le_refl _) _).trans (hb.mono (by simp))
  have B2 := Lib.hid (chain B1.out hb)
  have N2 := Lib.hid (N1.out.below hb)
  clear hb c0 c1 c2 c3 nl B1 N1
  obtain ⟨c0, c1, c2, c3⟩ := N2.out.cells
  have nl := N2.out.lt
  go_wp2_with fail
  refine (rstages8 c h x A cA n ls _ (HRL.out.below B2.out) LRL.out hn60).mono ?_
  rintro e w3 ⟨AS, kS, nS, rfl, hnS, hRS, hb, hd1, hd2⟩
  have MS := Lib.hid hnS
  clear hnS hRS hd1 hd2
  have B3 := Lib.hid (chain B2.out hb)
  have N3 := Lib.hid (N2.out.below hb)
  clear hb c0 c1 c2 c3 nl B2 N2
  obtain ⟨c0, c1, c2, c3⟩ := N3.out.cells
  have nl := N3.out.lt
  have dS : nS ≤ kk → False := by rw [MS.out]; exact Nat.not_le.2 KS.out
  have dS2 : decide (nS ≤ kk) = false := decide_eq_false dS
  clear dS
  go_wp2_with fail
  refine (CA.out X cX nx W cW nw _ (HRL.out.below B3.out) (HX.out.below B3.out) LX.out (HW.out.below B3.out) LW.out).mono ?_
  rintro e w4 ⟨Aa, ka, na, rfl, h1, h2, hb, h4, h5⟩
  have Ma := Lib.hid h1; have Qa := Lib.hid h2
  clear h1 h2 h4 h5
  have B4 := Lib.hid (chain B3.out hb)
  have N4 := Lib.hid (N3.out.below hb)
  clear hb c0 c1 c2 c3 nl B3 N3
  obtain ⟨c0, c1, c2, c3⟩ := N4.out.cells
  have nl := N4.out.lt
  go_wp2_with fail
  refine (CB.out U cU nu V cV nv _ (HRL.out.below B4.out) (HU.out.below B4.out) LU.out (HV.out.below B4.out) LV.out).mono ?_
  rintro e w5 ⟨Ab, kb, nb, rfl, h1, h2, hb, h4, h5⟩
  have Mb := Lib.hid h1; have Qb := Lib.hid h2
  clear h1 h2 h4 h5
  have B5 := Lib.hid (chain B4.out hb)
  have N5 := Lib.hid (N4.out.below hb)
  replace Qa := Lib.hid (Qa.out.below hb)
  clear hb c0 c1 c2 c3 nl B4 N4
  obtain ⟨c0, c1, c2, c3⟩ := N5.out.cells
  have nl := N5.out.lt
  go_wp2_with fail
  refine (rrange8 c h x A cA n ls (kk : Int) (f : Int) (m : Int) RNG.out _ (HRL.out.below B5.out) LRL.out hn60).mono ?_
  rintro e w6 ⟨rfl, hb⟩
  have B6 := Lib.hid (chain B5.out hb)
  have N6 := Lib.hid (N5.out.below hb)
  replace Qa := Lib.hid (Qa.out.below hb)
  replace Qb := Lib.hid (Qb.out.below hb)
  clear hb c0 c1 c2 c3 nl B5 N5
  obtain ⟨c0, c1, c2, c3⟩ := N6.out.cells
  have nl := N6.out.lt
  obtain ⟨m2, hm2⟩ : ∃ m2, m2 = 2 * m := ⟨_, rfl⟩
  obtain rfl : na = m2 := by rw [Ma.out, EA.out, say_len, hm2]
  obtain rfl : nb = na := by rw [Mb.out, EB.out, say_len, hm2]
  have dm := DM.out; have dm2 := DM2.out
  rw [← hm2] at dm dm2
  have HM2 := Lib.hid hm2
  clear hm2
  have dn : ((nb : Int) != (nb : Int)) = false := by simp
  go_wp2_with fail
  refine (rgates8 c h x A cA n ls _ (HRL.out.below B6.out) LRL.out hn60).mono ?_
  rintro e w7 ⟨Ag, kg, ng, rfl, h1, h2, hb, h4, h5⟩
  have Mg := Lib.hid h1; have Qg := Lib.hid h2
  clear h1 h2 h4 h5
  have B7 := Lib.hid (chain B6.out hb)
  have N7 := Lib.hid (N6.out.below hb)
  replace Qa := Lib.hid (Qa.out.below hb)
  replace Qb := Lib.hid (Qb.out.below hb)
  clear hb c0 c1 c2 c3 nl B6 N6
  obtain ⟨c0, c1, c2, c3⟩ := N7.out.cells
  have nl := N7.out.lt
  have g3 : f + m ≤ ng := by rw [Mg.out]; exact GL.out
  have g5 : ng ≤ 512 := by rw [Mg.out]; exact gates_bd
  clear dm dm2 dn c0 c1 c2 c3 nl
  go_wp2_with fail
  go_loopg [26, 27, 28] m (fun g s26 _ _ wx => ∃ k : Nat, k ≤ m ∧ Hid (g = m - k) ∧ s26 = .int .i64 (k : Int) ∧ Hid (Below w7.heap.size w7 wx))
  case atStart => exact ⟨0, by omega, by show _ = _; omega, rfl, Below.refl _ _⟩
  case round =>
    obtain ⟨k, hk, HG, rfl, BI⟩ := hrel
    by_cases km : k < m
    · have d1 : (k : Int) < (m : Int) := by omega
      have KM : Hid (k < m) := km
      obtain ⟨bG, oG, rfl, lG, qG⟩ := Qg.out (by have := GL.out; omega)
      obtain ⟨j, hj⟩ : ∃ j, j = f + k := ⟨_, rfl⟩
      obtain ⟨G, hG⟩ : ∃ G, G = gtN ⟨c, h, x, ls⟩ j := ⟨_, rfl⟩
      obtain ⟨y0, y1, y2, y3, y4⟩ := g_cells qG (gt_rng (c := c) (h := h) (x := x) (ls := ls) (j := j) (by have := GL.out; omega))
      rw [← hG] at y3 y4
      obtain ⟨t1, t2, t3, t4, t5⟩ := GI.out k km
      rw [← hj, ← hG] at t1 t2 t3 t4 t5
      have z3 := (BI.out.cell (p := ⟨bG, oG + j * 5 + 3, none⟩) lG).trans y3
      have z4 := (BI.out.cell (p := ⟨bG, oG + j * 5 + 4, none⟩) lG).trans y4
      obtain ⟨xj, hxj⟩ : ∃ xj : Nat, G.x = xj := ⟨G.x.toNat, by omega⟩
      rw [hxj] at t1 t2 t3 z3
      obtain ⟨bX, oX, rfl, lX, x1⟩ := ug_at (HX.out.below B7.out) t1 (by rw [← LX.out]; exact t2)
      obtain ⟨bU, oU, rfl, lU, x2⟩ := ug_at (HU.out.below B7.out) t1 (by rw [← LU.out]; exact t3)
      rw [Int.toNat_natCast] at x1 x2
      obtain ⟨ax, hax⟩ : ∃ ax, ax = ug xs (xj : Int) := ⟨_, rfl⟩
      obtain ⟨ux, hux⟩ : ∃ ux, ux = ug us (xj : Int) := ⟨_, rfl⟩
      rw [← hax] at x1
      rw [← hux] at x2
      have zx := (BI.out.cell (p := ⟨bX, oX + xj, none⟩) lX).trans x1
      have zu := (BI.out.cell (p := ⟨bU, oU + xj, none⟩) lU).trans x2
      obtain ⟨p0, hp0⟩ : ∃ p0, p0 = 2 * k := ⟨_, rfl⟩
      obtain ⟨p1, hp1⟩ : ∃ p1, p1 = p0 + 1 := ⟨_, rfl⟩
      obtain ⟨bA, oA, rfl, lA, qA⟩ := Qa.out (by rw [EA.out, say_len]; omega)
      obtain ⟨bB, oB, rfl, lB, qB⟩ := Qb.out (by rw [EB.out, say_len]; omega)
      obtain ⟨ga0, ga1⟩ := say_get opx m k km
      obtain ⟨gb0, gb1⟩ := say_get opy m k km
      rw [← EA.out, ← hp0] at ga0
      rw [← EA.out, ← hp0, ← hp1] at ga1
      rw [← EB.out, ← hp0] at gb0
      rw [← EB.out, ← hp0, ← hp1] at gb1
      have a0 := (BI.out.cell (p := ⟨bA, oA + p0, none⟩) lA).trans (su_cell qA ga0)
      have a1 := (BI.out.cell (p := ⟨bA, oA + p1, none⟩) lA).trans (su_cell qA ga1)
      have b0 := (BI.out.cell (p := ⟨bB, oB + p0, none⟩) lB).trans (su_cell qB gb0)
      have b1 := (BI.out.cell (p := ⟨bB, oB + p1, none⟩) lB).trans (su_cell qB gb1)
      obtain ⟨yx, hyx⟩ : ∃ yx, yx = yvU xs ws G := ⟨_, rfl⟩
      obtain ⟨yu, hyu⟩ : ∃ yu, yu = yvU us vs G := ⟨_, rfl⟩
      obtain ⟨tr, htr⟩ : ∃ tr, tr = halfU z a (UInt64.ofNat j) := ⟨_, rfl⟩
      have OPX : opx k = openU ax yx tr := by rw [OX.out]; unfold opA; rw [← hj, ← hG, hxj, ← hax, ← hyx, ← htr]
      have OPY : opy k = openU ux yu tr := by rw [OY.out]; unfold opA; rw [← hj, ← hG, hxj, ← hux, ← hyu, ← htr]
      obtain ⟨q0, hq0⟩ : ∃ q, q = (opx k).d := ⟨_, rfl⟩
      obtain ⟨q1, hq1⟩ : ∃ q, q = (opx k).e := ⟨_, rfl⟩
      obtain ⟨r0, hr0⟩ : ∃ q, q = (opy k).d := ⟨_, rfl⟩
      obtain ⟨r1, hr1⟩ : ∃ q, q = (opy k).e := ⟨_, rfl⟩
      rw [← hq0] at a0
      rw [← hq1] at a1
      rw [← hr0] at b0
      rw [← hr1] at b1
      obtain ⟨e0, he0⟩ : ∃ e, e = ax - ux := ⟨_, rfl⟩
      obtain ⟨e1, he1⟩ : ∃ e, e = yx - yu := ⟨_, rfl⟩
      have D0 : q0 - r0 = e0 := by rw [hq0, hr0, OPX, OPY, he0]; unfold openU; dsimp only; grind
      have D1 : q1 - r1 = e1 := by rw [hq1, hr1, OPX, OPY, he1]; unfold openU; dsimp only; grind
      have w0 : IntKind.u64.wrap (uz ax - uz ux) = uz e0 := by rw [he0]; exact uz_sub _ _
      have w1 : IntKind.u64.wrap (uz yx - uz yu) = uz e1 := by rw [he1]; exact uz_sub _ _
      have w2 : IntKind.u64.wrap (uz q0 - uz r0) = uz e0 := by rw [← D0]; exact uz_sub _ _
      have w3 : IntKind.u64.wrap (uz q1 - uz r1) = uz e1 := by rw [← D1]; exact uz_sub _ _
      have f0 : (uz e0 != uz e0) = false := by simp
      have f1 : (uz e1 != uz e1) = false := by simp
      have jf0 : (0 : Int) ≤ (j : Int) := by omega
      have jf1 : (j : Int) < (ng : Int) := by omega
      have jf2 : j < ng := by omega
      have xjx : xj < nx := by omega
      have xju : xj < nu := by omega
      have p00 : (0 : Int) ≤ (p0 : Int) := by omega
      have p10 : (0 : Int) ≤ (p1 : Int) := by omega
      have p0n : p0 < nb := by have := HM2.out; omega
      have p1n : p1 < nb := by have := HM2.out; omega
      have p0i : (p0 : Int) < (nb : Int) := by omega
      have p1i : (p1 : Int) < (nb : Int) := by omega
      have v1 : IntKind.i64.wrap (2 * (k : Int)) = (p0 : Int) := by rw [IntWalk.i64_in _ (by omega)]; omega
      have P1 := Lib.hid v1
      clear v1
      have v1 : wrap64 (2 * (k : Int)) = (p0 : Int) := by rw [IntWalk.wrap64_in _ (by omega)]; omega
      have P2 := Lib.hid v1
      clear v1
      have P3 := Lib.hid (next_i64 hp1 (Nat.lt_succ_self p0) (show p0.succ ≤ 100000 by omega))
      have P4 := Lib.hid (next_wrap hp1 (Nat.lt_succ_self p0) (show p0.succ ≤ 100000 by omega))
      have v1 : IntKind.i64.wrap ((f : Int) + (k : Int)) = (j : Int) := by rw [IntWalk.i64_in _ (by omega)]; omega
      have P5 := Lib.hid v1
      clear v1
      have v1 : wrap64 ((f : Int) + (k : Int)) = (j : Int) := by rw [IntWalk.wrap64_in _ (by omega)]; omega
      have P6 := Lib.hid v1
      clear v1
      clear hj hp0 hp1 y0 y1 y2 y3 y4 qG x1 x2 qA qB ga0 ga1 gb0 gb1 hG htr OPX OPY hq0 hq1 hr0 hr1 he0 he1 D0 D1
      by_cases gw : 0 ≤ G.w
      · have d2 : decide (0 ≤ G.w) = true := decide_eq_true gw
        obtain ⟨wj, hwj⟩ : ∃ wj : Nat, G.w = wj := ⟨G.w.toNat, by omega⟩
        rw [hwj] at t4 t5 z4 d2
        have wj0 : (0 : Int) ≤ (wj : Int) := by omega
        obtain ⟨bW, oW, rfl, lW, x1⟩ := ug_at (HW.out.below B7.out) wj0 (by rw [← LW.out]; exact t4)
        obtain ⟨bV, oV, rfl, lV, x2⟩ := ug_at (HV.out.below B7.out) wj0 (by rw [← LV.out]; exact t5)
        rw [Int.toNat_natCast] at x1 x2
        rw [show ug ws (wj : Int) = yx by rw [hyx]; unfold yvU; rw [if_pos gw, hwj]] at x1
        rw [show ug vs (wj : Int) = yu by rw [hyu]; unfold yvU; rw [if_pos gw, hwj]] at x2
        have zw := (BI.out.cell (p := ⟨bW, oW + wj, none⟩) lW).trans x1
        have zv := (BI.out.cell (p := ⟨bV, oV + wj, none⟩) lV).trans x2
        have wjw : wj < nw := by omega
        have wjv : wj < nv := by omega
        clear gw hwj hyx hyu hax hux x1 x2
        have v1 := P1.out; have v2 := P2.out; have v3 := P3.out; have v4 := P4.out; have v5 := P5.out; have v6 := P6.out
        go_wp2_with fail
        go_quiet (fail)
        go_wp2_with fail
        go_quiet (fail)
        go_wp2_with fail
        go_quiet (fail)
        clear v1 v2 v3 v4 v5 v6
        go_wp2_with fail
        go_roundg (m - (k + 1))
        case measure => have := HG.out; have := KM.out; omega
        case rel => exact ⟨k + 1, by have := KM.out; omega, rfl, by go_num, chain_drewN BI.out _⟩
      · have d2 : decide (0 ≤ G.w) = false := decide_eq_false gw
        have ey : yx = ax := by rw [hyx]; unfold yvU; rw [if_neg gw, hxj]; exact hax.symm
        have eu : yu = ux := by rw [hyu]; unfold yvU; rw [if_neg gw, hxj]; exact hux.symm
        have ee : uz e1 = uz e0 := by rw [← w1, ← w0, ey, eu]
        rw [ee] at w3
        clear gw hyx hyu hax hux ey eu ee w1 f1
        have v1 := P1.out; have v2 := P2.out; have v3 := P3.out; have v4 := P4.out; have v5 := P5.out; have v6 := P6.out
        go_wp2_with fail
        go_quiet (fail)
        go_wp2_with fail
        go_quiet (fail)
        clear v1 v2 v3 v4 v5 v6
        go_wp2_with fail
        go_roundg (m - (k + 1))
        case measure => have := HG.out; have := KM.out; omega
        case rel => exact ⟨k + 1, by have := KM.out; omega, rfl, by go_num, chain_drewN BI.out _⟩
    · obtain rfl : k = m := by omega
      have d1 : decide (k < k) = false := by simp
      go_wp2_with fail
      go_ret
      exact ⟨rfl, chain B7.out BI.out⟩

end Go.Proofs.YtklgjhldebdegaaGreat

namespace Go.Proofs.YtklgjhldebdegaaGreat.evalApart
open Go.ChangeShapes Go.WideShapes Go.ChangeAt Go.RowKit

set_option maxRecDepth 100000 in
theorem lifted (os : Os) (started : os.Started) (H : Type) (enc : TypeId × Value → H) :
    ReturnsInHanded {} Tryz.checked os 6 .any (Rows.evalApartSpec.pre6 enc Tryz.prog Tryz.f6 Rows.evalApartRow.domain false) (Rows.evalApartSpec.post enc Tryz.prog Tryz.f6 false true false false) := by
  refine returnsInHanded_of_change (C := Tryz.checked) Tryz.own started (by kernel_rfl) Tryz.func6
    (ChangeSpec.witness6 (enc := enc) (C := Tryz.checked) false ⟨#[], #[.agg #[.int .i64 0, .int .i64 0, .int .i64 0, .slice none 0 0], .int .i64 0, .int .u64 0, .int .u8 0, .slice none 0 0, .slice none 0 0, .slice none 0 0, .slice none 0 0], []⟩ 8 (by kernel_rfl) (by kernel_rfl) (by kernel_rfl) (by kernel_rfl)) ?_
  intro W base args ds gs before hval0 hW _ _
  have hval : ∀ (j : Nat) t v, Tryz.f6.params[j]? = some t → args[j]? = some v → Value.okWide Tryz.prog W .any base t v := hval0
  have hW' := hW
  obtain ⟨p, q, hA0, hV, rfl, hfz, hnd⟩ := hW
  have hA : DataW.TrodAll enc Tryz.prog W 0 (fun _ => true) true Tryz.f6.params.toList args.toList ds p := hA0
  rw [Tryz.params6] at hA hval
  obtain ⟨v0, vs0, d0, ds0, p0, q0, hargs, rfl, rfl, h0, r0⟩ := trodAll_cons hA
  obtain ⟨v1, vs1, d1, ds1, p1, q1, rfl, rfl, rfl, h1, r1⟩ := trodAll_cons r0
  obtain ⟨v2, vs2, d2, ds2, p2, q2, rfl, rfl, rfl, h2, r2⟩ := trodAll_cons r1
  obtain ⟨v3, vs3, d3, ds3, p3, q3, rfl, rfl, rfl, h3, r3⟩ := trodAll_cons r2
  obtain ⟨v4, vs4, d4, ds4, p4, q4, rfl, rfl, rfl, h4, r4⟩ := trodAll_cons r3
  obtain ⟨v5, vs5, d5, ds5, p5, q5, rfl, rfl, rfl, h5, r5⟩ := trodAll_cons r4
  obtain ⟨v6, vs6, d6, ds6, p6, q6, rfl, rfl, rfl, h6, r6⟩ := trodAll_cons r5
  obtain ⟨v7, vs7, d7, ds7, p7, q7, rfl, rfl, rfl, h7, r7⟩ := trodAll_cons r6
  obtain ⟨rfl, rfl, rfl⟩ := trodAll_nil r7
  obtain rfl : args = #[v0, v1, v2, v3, v4, v5, v6, v7] := by cases args; simp_all
  obtain ⟨rfl, rfl⟩ := trodVars_none hV
  have k0 := h0
  have lt0 : ∀ x ∈ p0, x.block < W.heap.size := by obtain ⟨m, hm⟩ := k0; exact DataW.trod_lt m _ _ _ hm
  obtain ⟨c0, y0, x0, A0, n0, cap0, l0, rfl, e0, w0, b0, m0⟩ := net_open (hval 0 26 v0 rfl rfl) h0
  obtain ⟨a1, rfl, rfl, rfl, w1⟩ := open_int Tryz.underlying3 (hval 1 3 v1 rfl rfl) h1
  obtain ⟨a2, rfl, rfl, rfl, w2⟩ := open_int Tryz.underlying27 (hval 2 27 v2 rfl rfl) h2
  obtain ⟨u2, e2⟩ := u64_of_wf w2
  subst e2
  obtain ⟨a3, rfl, rfl, rfl, w3⟩ := open_int Tryz.underlying5 (hval 3 5 v3 rfl rfl) h3
  obtain ⟨A4, n4, cap4, rfl⟩ := okWide_slice Tryz.underlying28 (hval 4 28 v4 rfl rfl)
  have k4 := h4
  have lt4 : ∀ x ∈ p4, x.block < W.heap.size := by obtain ⟨m, hm⟩ := k4; exact DataW.trod_lt m _ _ _ hm
  obtain ⟨u4, e4, w4, b4⟩ := ru_open h4
  obtain ⟨A5, n5, cap5, rfl⟩ := okWide_slice Tryz.underlying28 (hval 5 28 v5 rfl rfl)
  have k5 := h5
  have lt5 : ∀ x ∈ p5, x.block < W.heap.size := by obtain ⟨m, hm⟩ := k5; exact DataW.trod_lt m _ _ _ hm
  obtain ⟨u5, e5, w5, b5⟩ := ru_open h5
  obtain ⟨A6, n6, cap6, rfl⟩ := okWide_slice Tryz.underlying28 (hval 6 28 v6 rfl rfl)
  have k6 := h6
  have lt6 : ∀ x ∈ p6, x.block < W.heap.size := by obtain ⟨m, hm⟩ := k6; exact DataW.trod_lt m _ _ _ hm
  obtain ⟨u6, e6, w6, b6⟩ := ru_open h6
  obtain ⟨A7, n7, cap7, rfl⟩ := okWide_slice Tryz.underlying28 (hval 7 28 v7 rfl rfl)
  have k7 := h7
  have lt7 : ∀ x ∈ p7, x.block < W.heap.size := by obtain ⟨m, hm⟩ := k7; exact DataW.trod_lt m _ _ _ hm
  obtain ⟨u7, e7, w7, b7⟩ := ru_open h7
  clear hA0 hval0
  refine (law_eapart c0 y0 x0 A0 cap0 n0 l0 a1 u2 a3 A4 cap4 n4 u4 A5 cap5 n5 u5 A6 cap6 n6 u6 A7 cap7 n7 u7 W w0 e0 (bounds_u8 w3) w4 e4 w5 e5 w6 e6 w7 e7).mono fun e W' ⟨he, bel⟩ => ?_
  subst he
  exact ⟨_, rfl, _, _, _, [], _, [], hW', trodAll_mk1 (shut_bool Tryz.underlying4 _), (trodAll_cons_mk (Below.trod Tryz.laidOut (by kernel_rfl) (of_decide_eq_true (by kernel_rfl)) k0 bel lt0) (trodAll_cons_mk (shut_int Tryz.underlying3 w1) (trodAll_cons_mk (shut_int Tryz.underlying27 w2) (trodAll_cons_mk (shut_int Tryz.underlying5 w3) (trodAll_cons_mk (Below.trod Tryz.laidOut (by kernel_rfl) (of_decide_eq_true (by kernel_rfl)) k4 bel lt4) (trodAll_cons_mk (Below.trod Tryz.laidOut (by kernel_rfl) (of_decide_eq_true (by kernel_rfl)) k5 bel lt5) (trodAll_cons_mk (Below.trod Tryz.laidOut (by kernel_rfl) (of_decide_eq_true (by kernel_rfl)) k6 bel lt6) (trodAll_cons_mk (Below.trod Tryz.laidOut (by kernel_rfl) (of_decide_eq_true (by kernel_rfl)) k7 bel lt7) trodAll_mk0)))))))), rfl, bel.frame _, fun h => by cases h⟩

theorem proved : Rows.EvalApartSaid :=
  OpenClaim.holds_of_wide 6 Tryz.f6 rfl rfl rfl rfl rfl rfl rfl ⟨rfl, rfl, rfl, rfl, rfl⟩ rfl rfl rfl rfl rfl (by kernel_rfl) Tryz.func6 (by kernel_rfl)
    (of_decide_eq_true (by kernel_rfl)) (by unfold Func.isWrapper; first | (rw [if_pos (by decide +kernel)]; kernel_rfl) | (rw [if_neg (by decide +kernel)]; exact ⟨rfl, rfl⟩))
    (fun os started H enc _ => lifted os started H enc)

end Go.Proofs.YtklgjhldebdegaaGreat.evalApart

namespace Go.Proofs.YtklgjhldebdegaaGreat
theorem evalApart_proved : Rows.EvalApartSaid := evalApart.proved
#print axioms evalApart_proved
end Go.Proofs.YtklgjhldebdegaaGreat
