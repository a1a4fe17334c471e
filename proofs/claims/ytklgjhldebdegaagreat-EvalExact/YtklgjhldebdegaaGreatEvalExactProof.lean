/-
  EvalExact, of any network, any number of 64 bits, any number of 8 bits and any four rows of numbers, returns true, and each argument reads afterwards as it read before; no condition.
-/
import Derived.Test.YtklgjhldebdegaaGreatB17
import Derived.Deep.RegionHeld3
namespace Go.Proofs.YtklgjhldebdegaaGreat
open Go.RowKit

set_option maxHeartbeats 8000000 in
set_option maxRecDepth 100000 in
theorem law_eexact (c h x : Int) (A : Option Addr) (cA n : Nat) (ls : List Ly) (z : UInt64) (s : Int) (X : Option Addr) (cX nx : Nat) (xs : List UInt64) (U : Option Addr) (cU nu : Nat) (us : List UInt64) (W : Option Addr) (cW nw : Nat) (ws : List UInt64) (V : Option Addr) (cV nv : Nat) (vs : List UInt64) (w : World) (hx : Rl w A ls) (ln : n = ls.length) (bs : 0 ≤ s ∧ s ≤ 255) (hX : Rg ucells w X xs) (lX : nx = xs.length) (hU : Rg ucells w U us) (lU : nu = us.length) (hW : Rg ucells w W ws) (lW : nw = ws.length) (hV : Rg ucells w V vs) (lV : nv = vs.length) :
    Calls Tryz.prog 4 #[.agg #[.int .i64 c, .int .i64 h, .int .i64 x, .slice A n cA], .int .u64 (uz z), .int .u8 s, .slice X nx cX, .slice U nu cU, .slice W nw cW, .slice V nv cV] w fun e w' => e = .returned (.bool true) ∧ Below w.heap.size w w' := by
  have HRL := Lib.hid hx; have LRL := Lib.hid ln
  have HX := Lib.hid hX; have LX := Lib.hid lX
  have HU := Lib.hid hU; have LU := Lib.hid lU
  have HW := Lib.hid hW; have LW := Lib.hid lW
  have HV := Lib.hid hV; have LV := Lib.hid lV
  clear hx ln hX lX hU lU hW lW hV lV
  obtain ⟨kk, hkk⟩ : ∃ kk : Nat, s % 9 = kk := ⟨(s % 9).toNat, by omega⟩
  obtain ⟨bs0, bs1⟩ := bs
  have kk9 : kk < 9 := by omega
  by_cases hg : 60 < n ∨ 3000 < nx ∨ 3000 < nu ∨ 3000 < nw ∨ 3000 < nv
  · have hgr : (anyB [⟨X, nx, cX⟩, ⟨U, nu, cU⟩, ⟨W, nw, cW⟩, ⟨V, nv, cV⟩] || decide (60 < (n : Int))) = true := by unfold anyB; simp; omega
    go_enter Tryz.func4, Tryz.ntmps4
    go_wp2_with fail
    refine (head13_any _).mono ?_
    rintro e w1 ⟨rfl, hb⟩
    have B1 := Lib.hid (chain ((Below.refl w.heap.size w).alloc (Nat.le_refl _) _) hb)
    have N1 := Lib.hid ((NB.new w c h x (.slice A n cA)).below hb)
    clear hb
    obtain ⟨c0, c1, c2, c3⟩ := N1.out.cells
    have nl := N1.out.lt
    go_wp2_with fail
    refine (great13 c h x A cA n _ 4 _ [⟨X, nx, cX⟩, ⟨U, nu, cU⟩, ⟨W, nw, cW⟩, ⟨V, nv, cV⟩] _ true hgr (rg_block (heap_alloc_new _ _) rfl) rfl (by decide)).mono ?_
    rintro e w2 ⟨rfl, hb⟩
    replace hb := ((Below.refl w1.heap.size w1).alloc (Nat.le_refl _) _).trans (hb.mono (by simp))
    have B2 := Lib.hid (chain B1.out hb)
    have N2 := Lib.hid (N1.out.below hb)
    clear hb c0 c1 c2 c3 nl B1 N1
    obtain ⟨c0, c1, c2, c3⟩ := N2.out.cells
    have nl := N2.out.lt
    go_wp2_with fail
    go_ret
    exact ⟨rfl, B2.out⟩
  have hgr : (anyB [⟨X, nx, cX⟩, ⟨U, nu, cU⟩, ⟨W, nw, cW⟩, ⟨V, nv, cV⟩] || decide (60 < (n : Int))) = false := by unfold anyB; simp; omega
  have hn60 : n ≤ 60 := by omega
  have hn1 : n ≤ 1000 := by omega
  have bX : nx ≤ 3000 := by omega
  have bU : nu ≤ 3000 := by omega
  have bW : nw ≤ 3000 := by omega
  have bV : nv ≤ 3000 := by omega
  clear hg
  by_cases hS : (stagesN ⟨c, h, x, ls⟩).length ≤ kk
  · skip
    go_enter Tryz.func4, Tryz.ntmps4
    go_wp2_with fail
    refine (head13_any _).mono ?_
    rintro e w1 ⟨rfl, hb⟩
    have B1 := Lib.hid (chain ((Below.refl w.heap.size w).alloc (Nat.le_refl _) _) hb)
    have N1 := Lib.hid ((NB.new w c h x (.slice A n cA)).below hb)
    clear hb
    obtain ⟨c0, c1, c2, c3⟩ := N1.out.cells
    have nl := N1.out.lt
    go_wp2_with fail
    refine (great13 c h x A cA n _ 4 _ [⟨X, nx, cX⟩, ⟨U, nu, cU⟩, ⟨W, nw, cW⟩, ⟨V, nv, cV⟩] _ false hgr (rg_block (heap_alloc_new _ _) rfl) rfl (by decide)).mono ?_
    rintro e w2 ⟨rfl, hb⟩
    replace hb := ((Below.refl w1.heap.size w1).alloc (Nat.le_refl _) _).trans (hb.mono (by simp))
    have B2 := Lib.hid (chain B1.out hb)
    have N2 := Lib.hid (N1.out.below hb)
    clear hb c0 c1 c2 c3 nl B1 N1
    obtain ⟨c0, c1, c2, c3⟩ := N2.out.cells
    have nl := N2.out.lt
    go_wp2_with fail
    refine (rstages8 c h x A cA n ls _ (HRL.out.below B2.out) LRL.out hn60).mono ?_
    rintro e w3 ⟨AS, kS, nS, rfl, hnS, hRS, hb, hd1, hd2⟩
    have MS := Lib.hid hnS
    clear hnS hRS hd1 hd2
    have B3 := Lib.hid (chain B2.out hb)
    have N3 := Lib.hid (N2.out.below hb)
    clear hb c0 c1 c2 c3 nl B2 N2
    obtain ⟨c0, c1, c2, c3⟩ := N3.out.cells
    have nl := N3.out.lt
    have dS : nS ≤ kk := by rw [MS.out]; exact hS
    clear hS
    go_wp2_with fail
    go_ret
    exact ⟨rfl, B3.out⟩
  have hS := Nat.lt_of_not_le hS
  obtain ⟨la, hla⟩ : ∃ q, q = lineU ⟨c, h, x, ls⟩ 0 z (kk : Int) xs ws := ⟨_, rfl⟩
  obtain ⟨ba, hba⟩ : ∃ q, q = okLn ⟨c, h, x, ls⟩ (kk : Int) xs ws := ⟨_, rfl⟩
  have Hla := Lib.hid hla; have Hba := Lib.hid hba
  obtain ⟨lb, hlb⟩ : ∃ q, q = lineU ⟨c, h, x, ls⟩ 1 z (kk : Int) us vs := ⟨_, rfl⟩
  obtain ⟨bb, hbb⟩ : ∃ q, q = okLn ⟨c, h, x, ls⟩ (kk : Int) us vs := ⟨_, rfl⟩
  have Hlb := Lib.hid hlb; have Hbb := Lib.hid hbb
  have CA : Hid (∀ (X : Option Addr) (cX nx : Nat) (Y : Option Addr) (cY ny : Nat) (w' : World), Rl w' A ls → Rg ucells w' X xs → nx = (xs).length → Rg ucells w' Y ws → ny = (ws).length → Calls Tryz.prog 13 #[.agg #[.int .i64 c, .int .i64 h, .int .i64 x, .slice A n cA], .int .i64 0, .int .u64 (uz z), .int .i64 (kk : Int), .slice X nx cX, .slice Y ny cY] w' (PairTo la ba w')) := fun X cX nx Y cY ny w' z0 z1 z2 z3 z4 => by rw [hla, hba]; exact line13 c h x A X Y cA n cX nx cY ny ls xs ws 0 z (kk : Int) w' z0 LRL.out hn60 z1 z2 z3 z4
  have CB : Hid (∀ (X : Option Addr) (cX nx : Nat) (Y : Option Addr) (cY ny : Nat) (w' : World), Rl w' A ls → Rg ucells w' X us → nx = (us).length → Rg ucells w' Y vs → ny = (vs).length → Calls Tryz.prog 13 #[.agg #[.int .i64 c, .int .i64 h, .int .i64 x, .slice A n cA], .int .i64 1, .int .u64 (uz z), .int .i64 (kk : Int), .slice X nx cX, .slice Y ny cY] w' (PairTo lb bb w')) := fun X cX nx Y cY ny w' z0 z1 z2 z3 z4 => by rw [hlb, hbb]; exact line13 c h x A X Y cA n cX nx cY ny ls us vs 1 z (kk : Int) w' z0 LRL.out hn60 z1 z2 z3 z4
  have KS := Lib.hid hS
  clear hS
  by_cases tba : ba = true
  case neg =>
    obtain rfl : ba = false := by simpa using tba
    clear tba
    clear hla hlb hba hbb
    go_enter Tryz.func4, Tryz.ntmps4
    go_wp2_with fail
    refine (head13_any _).mono ?_
    rintro e w1 ⟨rfl, hb⟩
    have B1 := Lib.hid (chain ((Below.refl w.heap.size w).alloc (Nat.le_refl _) _) hb)
    have N1 := Lib.hid ((NB.new w c h x (.slice A n cA)).below hb)
    clear hb
    obtain ⟨c0, c1, c2, c3⟩ := N1.out.cells
    have nl := N1.out.lt
    go_wp2_with fail
    refine (great13 c h x A cA n _ 4 _ [⟨X, nx, cX⟩, ⟨U, nu, cU⟩, ⟨W, nw, cW⟩, ⟨V, nv, cV⟩] _ false hgr (rg_block (heap_alloc_new _ _) rfl) rfl (by decide)).mono ?_
    rintro e w2 ⟨rfl, hb⟩
    replace hb := ((Below.refl w1.heap.size w1).alloc (Nat.le_refl _) _).trans (hb.mono (by simp))
    have B2 := Lib.hid (chain B1.out hb)
    have N2 := Lib.hid (N1.out.below hb)
    clear hb c0 c1 c2 c3 nl B1 N1
    obtain ⟨c0, c1, c2, c3⟩ := N2.out.cells
    have nl := N2.out.lt
    go_wp2_with fail
    refine (rstages8 c h x A cA n ls _ (HRL.out.below B2.out) LRL.out hn60).mono ?_
    rintro e w3 ⟨AS, kS, nS, rfl, hnS, hRS, hb, hd1, hd2⟩
    have MS := Lib.hid hnS
    clear hnS hRS hd1 hd2
    have B3 := Lib.hid (chain B2.out hb)
    have N3 := Lib.hid (N2.out.below hb)
    clear hb c0 c1 c2 c3 nl B2 N2
    obtain ⟨c0, c1, c2, c3⟩ := N3.out.cells
    have nl := N3.out.lt
    have dS : nS ≤ kk → False := by rw [MS.out]; exact Nat.not_le.2 KS.out
    have dS2 : decide (nS ≤ kk) = false := decide_eq_false dS
    clear dS
    go_wp2_with fail
    refine (CA.out X cX nx W cW nw _ (HRL.out.below B3.out) (HX.out.below B3.out) LX.out (HW.out.below B3.out) LW.out).mono ?_
    rintro e w4 ⟨Aa, ka, na, rfl, h1, h2, hb, h4, h5⟩
    have Ma := Lib.hid h1; have Qa := Lib.hid h2
    clear h1 h2 h4 h5
    have B4 := Lib.hid (chain B3.out hb)
    have N4 := Lib.hid (N3.out.below hb)
    clear hb c0 c1 c2 c3 nl B3 N3
    obtain ⟨c0, c1, c2, c3⟩ := N4.out.cells
    have nl := N4.out.lt
    go_wp2_with fail
    refine (CB.out U cU nu V cV nv _ (HRL.out.below B4.out) (HU.out.below B4.out) LU.out (HV.out.below B4.out) LV.out).mono ?_
    rintro e w5 ⟨Ab, kb, nb, rfl, h1, h2, hb, h4, h5⟩
    have Mb := Lib.hid h1; have Qb := Lib.hid h2
    clear h1 h2 h4 h5
    have B5 := Lib.hid (chain B4.out hb)
    have N5 := Lib.hid (N4.out.below hb)
    replace Qa := Lib.hid (Qa.out.below hb)
    clear hb c0 c1 c2 c3 nl B4 N4
    obtain ⟨c0, c1, c2, c3⟩ := N5.out.cells
    have nl := N5.out.lt
    go_wp2_with fail
    go_ret
    exact ⟨rfl, B5.out⟩
  subst tba
  by_cases tbb : bb = true
  case neg =>
    obtain rfl : bb = false := by simpa using tbb
    clear tbb
    clear hla hlb hba hbb
    go_enter Tryz.func4, Tryz.ntmps4
    go_wp2_with fail
    refine (head13_any _).mono ?_
    rintro e w1 ⟨rfl, hb⟩
    have B1 := Lib.hid (chain ((Below.refl w.heap.size w).alloc (Nat.le_refl _) _) hb)
    have N1 := Lib.hid ((NB.new w c h x (.slice A n cA)).below hb)
    clear hb
    obtain ⟨c0, c1, c2, c3⟩ := N1.out.cells
    have nl := N1.out.lt
    go_wp2_with fail
    refine (great13 c h x A cA n _ 4 _ [⟨X, nx, cX⟩, ⟨U, nu, cU⟩, ⟨W, nw, cW⟩, ⟨V, nv, cV⟩] _ false hgr (rg_block (heap_alloc_new _ _) rfl) rfl (by decide)).mono ?_
    rintro e w2 ⟨rfl, hb⟩
    replace hb := ((Below.refl w1.heap.size w1).alloc (Nat.le_refl _) _).trans (hb.mono (by simp))
    have B2 := Lib.hid (chain B1.out hb)
    have N2 := Lib.hid (N1.out.below hb)
    clear hb c0 c1 c2 c3 nl B1 N1
    obtain ⟨c0, c1, c2, c3⟩ := N2.out.cells
    have nl := N2.out.lt
    go_wp2_with fail
    refine (rstages8 c h x A cA n ls _ (HRL.out.below B2.out) LRL.out hn60).mono ?_
    rintro e w3 ⟨AS, kS, nS, rfl, hnS, hRS, hb, hd1, hd2⟩
    have MS := Lib.hid hnS
    clear hnS hRS hd1 hd2
    have B3 := Lib.hid (chain B2.out hb)
    have N3 := Lib.hid (N2.out.below hb)
    clear hb c0 c1 c2 c3 nl B2 N2
    obtain ⟨c0, c1, c2, c3⟩ := N3.out.cells
    have nl := N3.out.lt
    have dS : nS ≤ kk → False := by rw [MS.out]; exact Nat.not_le.2 KS.out
    have dS2 : decide (nS ≤ kk) = false := decide_eq_false dS
    clear dS
    go_wp2_with fail
    refine (CA.out X cX nx W cW nw _ (HRL.out.below B3.out) (HX.out.below B3.out) LX.out (HW.out.below B3.out) LW.out).mono ?_
    rintro e w4 ⟨Aa, ka, na, rfl, h1, h2, hb, h4, h5⟩
    have Ma := Lib.hid h1; have Qa := Lib.hid h2
    clear h1 h2 h4 h5
    have B4 := Lib.hid (chain B3.out hb)
    have N4 := Lib.hid (N3.out.below hb)
    clear hb c0 c1 c2 c3 nl B3 N3
    obtain ⟨c0, c1, c2, c3⟩ := N4.out.cells
    have nl := N4.out.lt
    go_wp2_with fail
    refine (CB.out U cU nu V cV nv _ (HRL.out.below B4.out) (HU.out.below B4.out) LU.out (HV.out.below B4.out) LV.out).mono ?_
    rintro e w5 ⟨Ab, kb, nb, rfl, h1, h2, hb, h4, h5⟩
    have Mb := Lib.hid h1; have Qb := Lib.hid h2
    clear h1 h2 h4 h5
    have B5 := Lib.hid (chain B4.out hb)
    have N5 := Lib.hid (N4.out.below hb)
    replace Qa := Lib.hid (Qa.out.below hb)
    clear hb c0 c1 c2 c3 nl B4 N4
    obtain ⟨c0, c1, c2, c3⟩ := N5.out.cells
    have nl := N5.out.lt
    go_wp2_with fail
    go_ret
    exact ⟨rfl, B5.out⟩
  subst tbb
  have oa : okLn ⟨c, h, x, ls⟩ (kk : Int) xs ws = true := hba.symm
  have ob : okLn ⟨c, h, x, ls⟩ (kk : Int) us vs = true := hbb.symm
  have fa : okNx ⟨c, h, x, ls⟩ (kk : Int) la lb = true := by rw [hla, hlb]; exact line_fits oa ob
  have fb : okNx ⟨c, h, x, ls⟩ (kk : Int) lb la = true := by rw [hla, hlb]; exact line_fits ob oa
  obtain ⟨E1, E2⟩ := next_exact (z := z) KS.out oa ob
  rw [← hla, ← hlb] at E1 E2
  obtain ⟨i1, i2, i3⟩ := okLn_out oa
  obtain ⟨j1, j2, j3⟩ := okLn_out ob
  have he := (isSt_out i1).1
  obtain ⟨pa, hpa⟩ : ∃ q, q = nextU ⟨c, h, x, ls⟩ 0 z (kk : Int) la lb := ⟨_, rfl⟩
  obtain ⟨bp, hbp⟩ : ∃ q, q = okNx ⟨c, h, x, ls⟩ (kk : Int) la lb := ⟨_, rfl⟩
  have Hpa := Lib.hid hpa; have Hbp := Lib.hid hbp
  obtain ⟨pb, hpb⟩ : ∃ q, q = nextU ⟨c, h, x, ls⟩ 1 z (kk : Int) lb la := ⟨_, rfl⟩
  obtain ⟨bq, hbq⟩ : ∃ q, q = okNx ⟨c, h, x, ls⟩ (kk : Int) lb la := ⟨_, rfl⟩
  have Hpb := Lib.hid hpb; have Hbq := Lib.hid hbq
  have CC : Hid (∀ (X : Option Addr) (cX nx : Nat) (Y : Option Addr) (cY ny : Nat) (w' : World), Rl w' A ls → Rg ucells w' X la → nx = (la).length → Rg ucells w' Y lb → ny = (lb).length → Calls Tryz.prog 15 #[.agg #[.int .i64 c, .int .i64 h, .int .i64 x, .slice A n cA], .int .i64 0, .int .u64 (uz z), .int .i64 (kk : Int), .slice X nx cX, .slice Y ny cY] w' (PairTo pa bp w')) := fun X cX nx Y cY ny w' z0 z1 z2 z3 z4 => by rw [hpa, hbp]; exact next13 c h x A X Y cA n cX nx cY ny ls la lb 0 z (kk : Int) w' z0 LRL.out hn60 z1 z2 z3 z4
  have CD : Hid (∀ (X : Option Addr) (cX nx : Nat) (Y : Option Addr) (cY ny : Nat) (w' : World), Rl w' A ls → Rg ucells w' X lb → nx = (lb).length → Rg ucells w' Y la → ny = (la).length → Calls Tryz.prog 15 #[.agg #[.int .i64 c, .int .i64 h, .int .i64 x, .slice A n cA], .int .i64 1, .int .u64 (uz z), .int .i64 (kk : Int), .slice X nx cX, .slice Y ny cY] w' (PairTo pb bq w')) := fun X cX nx Y cY ny w' z0 z1 z2 z3 z4 => by rw [hpb, hbq]; exact next13 c h x A X Y cA n cX nx cY ny ls lb la 1 z (kk : Int) w' z0 LRL.out hn60 z1 z2 z3 z4
  obtain rfl : bp = true := hbp.trans fa
  obtain rfl : bq = true := hbq.trans fb
  have SUM : Hid (addR pa pb = throughU ⟨c, h, x, ls⟩ kk (addR xs us) (addR ws vs)) := by
    show _ = _
    rw [hpa, hpb]
    exact E1
  have LEN : Hid (pa.length = pb.length) := by show _ = _; rw [hpa, hpb]; exact E2
  have XL : Hid (((addR xs us).length : Int) = inN ⟨c, h, x, ls⟩ (kk : Int)) := by
    show _ = _
    rw [show (addR xs us).length = xs.length from addU_len (by omega)]
    exact i2
  have WL : Hid (((addR ws vs).length : Int) = totW (knN ⟨c, h, x, ls⟩)) := by
    show _ = _
    rw [show (addR ws vs).length = ws.length from addU_len (by omega)]
    exact i3
  have PB : Hid (pa.length ≤ 128) := by show _ ≤ _; rw [hpa]; exact next_bd _ _ _ _ _ _
  have HE := Lib.hid he
  clear hla hba hlb hbb oa ob fa fb E1 E2 i1 i2 i3 j1 j2 j3 he hpa hpb hbp hbq
  go_enter Tryz.func4, Tryz.ntmps4
  go_wp2_with fail
  refine (head13_any _).mono ?_
  rintro e w1 ⟨rfl, hb⟩
  have B1 := Lib.hid (chain ((Below.refl w.heap.size w).alloc (Nat.le_refl _) _) hb)
  have N1 := Lib.hid ((NB.new w c h x (.slice A n cA)).below hb)
  clear hb
  obtain ⟨c0, c1, c2, c3⟩ := N1.out.cells
  have nl := N1.out.lt
  go_wp2_with fail
  refine (great13 c h x A cA n _ 4 _ [⟨X, nx, cX⟩, ⟨U, nu, cU⟩, ⟨W, nw, cW⟩, ⟨V, nv, cV⟩] _ false hgr (rg_block (heap_alloc_new _ _) rfl) rfl (by decide)).mono ?_
  rintro e w2 ⟨rfl, hb⟩
  replace hb := ((Below.refl w1.heap.size w1).alloc (Nat.le_refl _) _).trans (hb.mono (by simp))
  have B2 := Lib.hid (chain B1.out hb)
  have N2 := Lib.hid (N1.out.below hb)
  clear hb c0 c1 c2 c3 nl B1 N1
  obtain ⟨c0, c1, c2, c3⟩ := N2.out.cells
  have nl := N2.out.lt
  go_wp2_with fail
  refine (rstages8 c h x A cA n ls _ (HRL.out.below B2.out) LRL.out hn60).mono ?_
  rintro e w3 ⟨AS, kS, nS, rfl, hnS, hRS, hb, hd1, hd2⟩
  have MS := Lib.hid hnS
  clear hnS hRS hd1 hd2
  have B3 := Lib.hid (chain B2.out hb)
  have N3 := Lib.hid (N2.out.below hb)
  clear hb c0 c1 c2 c3 nl B2 N2
  obtain ⟨c0, c1, c2, c3⟩ := N3.out.cells
  have nl := N3.out.lt
  have dS : nS ≤ kk → False := by rw [MS.out]; exact Nat.not_le.2 KS.out
  have dS2 : decide (nS ≤ kk) = false := decide_eq_false dS
  clear dS
  go_wp2_with fail
  refine (CA.out X cX nx W cW nw _ (HRL.out.below B3.out) (HX.out.below B3.out) LX.out (HW.out.below B3.out) LW.out).mono ?_
  rintro e w4 ⟨Aa, ka, na, rfl, h1, h2, hb, h4, h5⟩
  have Ma := Lib.hid h1; have Qa := Lib.hid h2
  clear h1 h2 h4 h5
  have B4 := Lib.hid (chain B3.out hb)
  have N4 := Lib.hid (N3.out.below hb)
  clear hb c0 c1 c2 c3 nl B3 N3
  obtain ⟨c0, c1, c2, c3⟩ := N4.out.cells
  have nl := N4.out.lt
  go_wp2_with fail
  refine (CB.out U cU nu V cV nv _ (HRL.out.below B4.out) (HU.out.below B4.out) LU.out (HV.out.below B4.out) LV.out).mono ?_
  rintro e w5 ⟨Ab, kb, nb, rfl, h1, h2, hb, h4, h5⟩
  have Mb := Lib.hid h1; have Qb := Lib.hid h2
  clear h1 h2 h4 h5
  have B5 := Lib.hid (chain B4.out hb)
  have N5 := Lib.hid (N4.out.below hb)
  replace Qa := Lib.hid (Qa.out.below hb)
  clear hb c0 c1 c2 c3 nl B4 N4
  obtain ⟨c0, c1, c2, c3⟩ := N5.out.cells
  have nl := N5.out.lt
  go_wp2_with fail
  refine (CC.out Aa ka na Ab kb nb _ (HRL.out.below B5.out) Qa.out Ma.out Qb.out Mb.out).mono ?_
  rintro e w6 ⟨Ac, kc, nc, rfl, h1, h2, hb, h4, h5⟩
  have Mc := Lib.hid h1; have Qc := Lib.hid h2
  clear h1 h2 h4 h5
  have B6 := Lib.hid (chain B5.out hb)
  have N6 := Lib.hid (N5.out.below hb)
  replace Qa := Lib.hid (Qa.out.below hb)
  replace Qb := Lib.hid (Qb.out.below hb)
  clear hb c0 c1 c2 c3 nl B5 N5
  obtain ⟨c0, c1, c2, c3⟩ := N6.out.cells
  have nl := N6.out.lt
  go_wp2_with fail
  refine (CD.out Ab kb nb Aa ka na _ (HRL.out.below B6.out) Qb.out Mb.out Qa.out Ma.out).mono ?_
  rintro e w7 ⟨Ad, kd, nd, rfl, h1, h2, hb, h4, h5⟩
  have Md := Lib.hid h1; have Qd := Lib.hid h2
  clear h1 h2 h4 h5
  have B7 := Lib.hid (chain B6.out hb)
  have N7 := Lib.hid (N6.out.below hb)
  replace Qa := Lib.hid (Qa.out.below hb)
  replace Qb := Lib.hid (Qb.out.below hb)
  replace Qc := Lib.hid (Qc.out.below hb)
  clear hb c0 c1 c2 c3 nl B6 N6
  obtain ⟨c0, c1, c2, c3⟩ := N7.out.cells
  have nl := N7.out.lt
  obtain rfl : nd = nc := by rw [Md.out, Mc.out, LEN.out]
  go_wp2_with fail
  have nl1 := nl; have nl2 := nl; have nl3 := nl
  refine wp_region_noPanic ?_
  refine wp_region_held_drew (S := fun w' => w'.cell? ⟨w.heap.size, 0, none⟩ = some (.int .i64 c) ∧ w'.cell? ⟨w.heap.size, 1, none⟩ = some (.int .i64 h) ∧ w'.cell? ⟨w.heap.size, 2, none⟩ = some (.int .i64 x) ∧ w'.cell? ⟨w.heap.size, 3, none⟩ = some (.slice A n cA)) (by kernel_rfl) ⟨c0, c1, c2, c3⟩ (fun hHeld => ?_)
  have hd := below_drew w7
  replace c0 := (hd.cell (p := ⟨w.heap.size, 0, none⟩) nl).trans c0
  replace nl := Nat.lt_of_lt_of_le nl hd.size
  replace c1 := (hd.cell (p := ⟨w.heap.size, 1, none⟩) nl1).trans c1
  replace nl1 := Nat.lt_of_lt_of_le nl1 hd.size
  replace c2 := (hd.cell (p := ⟨w.heap.size, 2, none⟩) nl2).trans c2
  replace nl2 := Nat.lt_of_lt_of_le nl2 hd.size
  replace c3 := (hd.cell (p := ⟨w.heap.size, 3, none⟩) nl3).trans c3
  replace nl3 := Nat.lt_of_lt_of_le nl3 hd.size
  generalize w7.drew = wq1 at hHeld hd c0 nl c1 nl1 c2 nl2 c3 nl3 ⊢
  have BD : Hid (Below wq1.heap.size wq1 wq1) := Below.refl _ _
  refine wpAnyH_take (i := 0) (v := ?vv1001) (by simp only [List.getElem?_toArray, List.getElem?_cons_zero]; rfl) (by kernel_rfl) (by kernel_rfl) (by kernel_rfl) (fun _ _ _ h => h) (Or.inl ⟨by rfl, ?yy1001⟩) (by assumption) ?rr1001
  case yy1001 => (intro w hSw; (try dsimp only at hSw); go_simp; first | done | with_reducible rfl)
  simp only [Act.put, List.setIfInBounds_toArray, List.set_cons_zero, List.set_cons_succ]
  refine wpAnyH_take (i := 1) (v := ?vv1002) (by simp only [List.getElem?_toArray, List.getElem?_cons_zero, List.getElem?_cons_succ]; rfl) (by kernel_rfl) (by kernel_rfl) (by kernel_rfl) (fun _ _ _ h => h) (Or.inl ⟨by rfl, ?yy1002⟩) (by assumption) ?rr1002
  case yy1002 => (intro w hSw; (try dsimp only at hSw); go_simp; first | done | with_reducible rfl)
  simp only [Act.put, List.setIfInBounds_toArray, List.set_cons_zero, List.set_cons_succ]
  refine wpAnyH_take (i := 2) (v := ?vv1003) (by simp only [List.getElem?_toArray, List.getElem?_cons_zero, List.getElem?_cons_succ]; rfl) (by kernel_rfl) (by kernel_rfl) (by kernel_rfl) (fun _ _ _ h => h) (Or.inl ⟨by rfl, ?yy1003⟩) (by assumption) ?rr1003
  case yy1003 => (intro w hSw; (try dsimp only at hSw); go_simp; first | done | with_reducible rfl)
  simp only [Act.put, List.setIfInBounds_toArray, List.set_cons_zero, List.set_cons_succ]
  refine wpAnyH_take (i := 3) (v := ?vv1004) (by simp only [List.getElem?_toArray, List.getElem?_cons_zero, List.getElem?_cons_succ]; rfl) (by kernel_rfl) (by kernel_rfl) (by kernel_rfl) (fun _ _ _ h => h) (Or.inl ⟨by rfl, ?yy1004⟩) (by assumption) ?rr1004
  case yy1004 => (intro w hSw; (try dsimp only at hSw); go_simp; first | done | with_reducible rfl)
  simp only [Act.put, List.setIfInBounds_toArray, List.set_cons_zero, List.set_cons_succ]
  refine wpAnyH_take (i := 4) (v := ?vv1005) (by simp only [List.getElem?_toArray, List.getElem?_cons_zero, List.getElem?_cons_succ]; rfl) (by kernel_rfl) (by kernel_rfl) (by kernel_rfl) (fun _ _ _ h => h) (Or.inl ⟨by rfl, ?yy1005⟩) (by assumption) ?rr1005
  case yy1005 => (intro w hSw; (try dsimp only at hSw); go_simp; first | done | with_reducible rfl)
  simp only [Act.put, List.setIfInBounds_toArray, List.set_cons_zero, List.set_cons_succ]
  refine wpAnyH_take (i := 5) (v := ?vv1006) (by simp only [List.getElem?_toArray, List.getElem?_cons_zero, List.getElem?_cons_succ]; rfl) (by kernel_rfl) (by kernel_rfl) (by kernel_rfl) (fun _ _ _ h => h) (Or.inl ⟨by rfl, ?yy1006⟩) (by assumption) ?rr1006
  case yy1006 => (intro w hSw; (try dsimp only at hSw); go_simp; first | done | with_reducible rfl)
  simp only [Act.put, List.setIfInBounds_toArray, List.set_cons_zero, List.set_cons_succ]
  refine wpAnyH_take (i := 6) (v := ?vv1007) (by simp only [List.getElem?_toArray, List.getElem?_cons_zero, List.getElem?_cons_succ]; rfl) (by kernel_rfl) (by kernel_rfl) (by kernel_rfl) (fun _ _ _ h => h) (Or.inl ⟨by rfl, ?yy1007⟩) (by assumption) ?rr1007
  case yy1007 => (intro w hSw; (try dsimp only at hSw); go_simp; first | done | with_reducible rfl)
  simp only [Act.put, List.setIfInBounds_toArray, List.set_cons_zero, List.set_cons_succ]
  refine wpAnyH_take (i := 7) (v := ?vv1008) (by simp only [List.getElem?_toArray, List.getElem?_cons_zero, List.getElem?_cons_succ]; rfl) (by kernel_rfl) (by kernel_rfl) (by kernel_rfl) (fun _ _ _ h => h) (Or.inl ⟨by rfl, ?yy1008⟩) (by assumption) ?rr1008
  case yy1008 => (intro w hSw; (try dsimp only at hSw); go_simp; first | done | with_reducible rfl)
  simp only [Act.put, List.setIfInBounds_toArray, List.set_cons_zero, List.set_cons_succ]
  refine wpAnyH_take (i := 8) (v := ?vv1009) (by simp only [List.getElem?_toArray, List.getElem?_cons_zero, List.getElem?_cons_succ]; rfl) (by kernel_rfl) (by kernel_rfl) (by kernel_rfl) (fun _ _ _ h => h) (Or.inl ⟨by rfl, ?yy1009⟩) (by assumption) ?rr1009
  case yy1009 => (intro w hSw; (try dsimp only at hSw); go_simp; first | done | with_reducible rfl)
  simp only [Act.put, List.setIfInBounds_toArray, List.set_cons_zero, List.set_cons_succ]
  refine wpAnyH_take (i := 9) (v := ?vv1010) (by simp only [List.getElem?_toArray, List.getElem?_cons_zero, List.getElem?_cons_succ]; rfl) (by kernel_rfl) (by kernel_rfl) (by kernel_rfl) (fun _ _ _ h => h) (Or.inl ⟨by rfl, ?yy1010⟩) (by assumption) ?rr1010
  case yy1010 => (intro w hSw; (try dsimp only at hSw); go_simp; first | done | with_reducible rfl)
  simp only [Act.put, List.setIfInBounds_toArray, List.set_cons_zero, List.set_cons_succ]
  refine wpAnyH_take (i := 11) (v := ?vv1011) (by simp only [List.getElem?_toArray, List.getElem?_cons_zero, List.getElem?_cons_succ]; rfl) (by kernel_rfl) (by kernel_rfl) (by kernel_rfl) (fun _ _ _ h => h) (Or.inl ⟨by rfl, ?yy1011⟩) (by assumption) ?rr1011
  case yy1011 => (intro w hSw; (try dsimp only at hSw); go_simp; first | done | with_reducible rfl)
  simp only [Act.put, List.setIfInBounds_toArray, List.set_cons_zero, List.set_cons_succ]
  refine wpAnyH_take (i := 12) (v := ?vv1012) (by simp only [List.getElem?_toArray, List.getElem?_cons_zero, List.getElem?_cons_succ]; rfl) (by kernel_rfl) (by kernel_rfl) (by kernel_rfl) (fun _ _ _ h => h) (Or.inl ⟨by rfl, ?yy1012⟩) (by assumption) ?rr1012
  case yy1012 => (intro w hSw; (try dsimp only at hSw); go_simp; first | done | with_reducible rfl)
  simp only [Act.put, List.setIfInBounds_toArray, List.set_cons_zero, List.set_cons_succ]
  refine wpAnyH_take (i := 13) (v := ?vv1013) (by simp only [List.getElem?_toArray, List.getElem?_cons_zero, List.getElem?_cons_succ]; rfl) (by kernel_rfl) (by kernel_rfl) (by kernel_rfl) (fun _ _ _ h => h) (Or.inl ⟨by rfl, ?yy1013⟩) (by assumption) ?rr1013
  case yy1013 => (intro w hSw; (try dsimp only at hSw); go_simp; first | done | with_reducible rfl)
  simp only [Act.put, List.setIfInBounds_toArray, List.set_cons_zero, List.set_cons_succ]
  refine wpAnyH_take (i := 14) (v := ?vv1014) (by simp only [List.getElem?_toArray, List.getElem?_cons_zero, List.getElem?_cons_succ]; rfl) (by kernel_rfl) (by kernel_rfl) (by kernel_rfl) (fun _ _ _ h => h) (Or.inl ⟨by rfl, ?yy1014⟩) (by assumption) ?rr1014
  case yy1014 => (intro w hSw; (try dsimp only at hSw); go_simp; first | done | with_reducible rfl)
  simp only [Act.put, List.setIfInBounds_toArray, List.set_cons_zero, List.set_cons_succ]
  refine wpAnyH_take (i := 16) (v := ?vv1015) (by simp only [List.getElem?_toArray, List.getElem?_cons_zero, List.getElem?_cons_succ]; rfl) (by kernel_rfl) (by kernel_rfl) (by kernel_rfl) (fun _ _ _ h => h) (Or.inl ⟨by rfl, ?yy1015⟩) (by assumption) ?rr1015
  case yy1015 => (intro w hSw; (try dsimp only at hSw); go_simp; first | done | with_reducible rfl)
  simp only [Act.put, List.setIfInBounds_toArray, List.set_cons_zero, List.set_cons_succ]
  refine wpAnyH_take (i := 17) (v := ?vv1016) (by simp only [List.getElem?_toArray, List.getElem?_cons_zero, List.getElem?_cons_succ]; rfl) (by kernel_rfl) (by kernel_rfl) (by kernel_rfl) (fun _ _ _ h => h) (Or.inl ⟨by rfl, ?yy1016⟩) (by assumption) ?rr1016
  case yy1016 => (intro w hSw; (try dsimp only at hSw); go_simp; first | done | with_reducible rfl)
  simp only [Act.put, List.setIfInBounds_toArray, List.set_cons_zero, List.set_cons_succ]
  refine wpAnyH_ready (rs := [10]) (by kernel_rfl) (by simp) ?_
  refine AllReadyH.cons (by simp only [List.getElem?_toArray, List.getElem?_cons_zero, List.getElem?_cons_succ]; rfl) (fun K hK => ?_) ?_
  · skip
    go_simp
    go_at_call 19
    (with_reducible refine (nadd Ac Ad kc kd nd nd (pa) (pb) _ (Qc.out.below (chain hd BD.out)) (Qd.out.below (chain hd BD.out)) Mc.out Md.out (by rw [Md.out]; have := PB.out; rw [LEN.out] at this; omega)).mono ?_)
    rintro e wq2 ⟨Ae, ke, ne, rfl, h1, h2, hb, h4, h5, h6⟩
    clear hHeld
    replace BD := Lib.hid (chain BD.out hb)
    have Me := Lib.hid h1; have Qe := Lib.hid h2
    clear h1 h2 h4 h5 h6
    clear hb
    go_wp2_with fail
    refine hK.out _ _ ⟨(BD.out.cell (p := ⟨w.heap.size, 0, none⟩) nl).trans c0, (BD.out.cell (p := ⟨w.heap.size, 1, none⟩) nl1).trans c1, (BD.out.cell (p := ⟨w.heap.size, 2, none⟩) nl2).trans c2, (BD.out.cell (p := ⟨w.heap.size, 3, none⟩) nl3).trans c3⟩ (fun hHeld => ?_)
    clear hK K
    try simp only [Act.put, List.setIfInBounds_toArray, List.set_cons_zero, List.set_cons_succ]
    refine wpAnyH_ready (rs := [15]) (by kernel_rfl) (by simp) ?_
    refine AllReadyH.cons (by simp only [List.getElem?_toArray, List.getElem?_cons_zero, List.getElem?_cons_succ]; rfl) (fun K hK => ?_) ?_
    · skip
      go_simp
      go_at_call 19
      (with_reducible refine (nadd X U cX cU nx nu (xs) (us) _ (HX.out.below (chain B7.out (chain hd BD.out))) (HU.out.below (chain B7.out (chain hd BD.out))) LX.out LU.out (by omega)).mono ?_)
      rintro e wq3 ⟨Af, kf, nf, rfl, h1, h2, hb, h4, h5, h6⟩
      clear hHeld
      replace BD := Lib.hid (chain BD.out hb)
      replace Qe := Lib.hid (Qe.out.below hb)
      have Mf := Lib.hid h1; have Qf := Lib.hid h2
      clear h1 h2 h4 h5 h6
      clear hb
      go_wp2_with fail
      refine hK.out _ _ ⟨(BD.out.cell (p := ⟨w.heap.size, 0, none⟩) nl).trans c0, (BD.out.cell (p := ⟨w.heap.size, 1, none⟩) nl1).trans c1, (BD.out.cell (p := ⟨w.heap.size, 2, none⟩) nl2).trans c2, (BD.out.cell (p := ⟨w.heap.size, 3, none⟩) nl3).trans c3⟩ (fun hHeld => ?_)
      clear hK K
      try simp only [Act.put, List.setIfInBounds_toArray, List.set_cons_zero, List.set_cons_succ]
      refine wpAnyH_ready (rs := [18]) (by kernel_rfl) (by simp) ?_
      refine AllReadyH.cons (by simp only [List.getElem?_toArray, List.getElem?_cons_zero, List.getElem?_cons_succ]; rfl) (fun K hK => ?_) ?_
      · skip
        go_simp
        go_at_call 19
        (with_reducible refine (nadd W V cW cV nw nv (ws) (vs) _ (HW.out.below (chain B7.out (chain hd BD.out))) (HV.out.below (chain B7.out (chain hd BD.out))) LW.out LV.out (by omega)).mono ?_)
        rintro e wq4 ⟨Ag, kg, ng, rfl, h1, h2, hb, h4, h5, h6⟩
        clear hHeld
        replace BD := Lib.hid (chain BD.out hb)
        replace Qe := Lib.hid (Qe.out.below hb)
        replace Qf := Lib.hid (Qf.out.below hb)
        have Mg := Lib.hid h1; have Qg := Lib.hid h2
        clear h1 h2 h4 h5 h6
        clear hb
        go_wp2_with fail
        refine hK.out _ _ ⟨(BD.out.cell (p := ⟨w.heap.size, 0, none⟩) nl).trans c0, (BD.out.cell (p := ⟨w.heap.size, 1, none⟩) nl1).trans c1, (BD.out.cell (p := ⟨w.heap.size, 2, none⟩) nl2).trans c2, (BD.out.cell (p := ⟨w.heap.size, 3, none⟩) nl3).trans c3⟩ (fun hHeld => ?_)
        clear hK K
        try simp only [Act.put, List.setIfInBounds_toArray, List.set_cons_zero, List.set_cons_succ]
        refine wpAnyH_ready (rs := [19]) (by kernel_rfl) (by simp) ?_
        refine AllReadyH.cons (by simp only [List.getElem?_toArray, List.getElem?_cons_zero, List.getElem?_cons_succ]; rfl) (fun K hK => ?_) ?_
        · skip
          go_simp
          go_at_call 20
          (with_reducible refine (through13 c h x A Af Ag cA n kf nf kg ng ls (addR (xs) (us)) (addR (ws) (vs)) kk _ (HRL.out.below (chain B7.out (chain hd BD.out))) LRL.out hn60 Qf.out Mf.out Qg.out Mg.out HE.out KS.out XL.out WL.out).mono ?_)
          rintro e wq5 ⟨At, kt, nt, rfl, h1, h2, hb, h4, h5⟩
          clear hHeld
          replace BD := Lib.hid (chain BD.out hb)
          replace Qe := Lib.hid (Qe.out.below hb)
          replace Qf := Lib.hid (Qf.out.below hb)
          replace Qg := Lib.hid (Qg.out.below hb)
          have Mt := Lib.hid h1; have Qt := Lib.hid h2
          clear h1 h2 h4 h5
          clear hb
          go_wp2_with fail
          refine hK.out _ _ ⟨(BD.out.cell (p := ⟨w.heap.size, 0, none⟩) nl).trans c0, (BD.out.cell (p := ⟨w.heap.size, 1, none⟩) nl1).trans c1, (BD.out.cell (p := ⟨w.heap.size, 2, none⟩) nl2).trans c2, (BD.out.cell (p := ⟨w.heap.size, 3, none⟩) nl3).trans c3⟩ (fun hHeld => ?_)
          clear hK K
          try simp only [Act.put, List.setIfInBounds_toArray, List.set_cons_zero, List.set_cons_succ]
          refine wpAnyH_ready (rs := [20]) (by kernel_rfl) (by simp) ?_
          refine AllReadyH.cons (by simp only [List.getElem?_toArray, List.getElem?_cons_zero, List.getElem?_cons_succ]; rfl) (fun K hK => ?_) ?_
          · skip
            go_simp
            go_at_call 17
            (with_reducible refine (ssame Ae At ke kt ne nt (addR (pa) (pb)) (throughU ⟨c, h, x, ls⟩ kk (addR (xs) (us)) (addR (ws) (vs))) _ Qe.out Qt.out Me.out Mt.out (by have q := Me.out; simp only [addR, List.length_zipWith] at q; have := PB.out; omega) (SUM.out)).mono ?_)
            rintro e wq6 ⟨rfl, hb⟩
            clear hHeld
            replace BD := Lib.hid (chain BD.out hb)
            replace Qe := Lib.hid (Qe.out.below hb)
            replace Qf := Lib.hid (Qf.out.below hb)
            replace Qg := Lib.hid (Qg.out.below hb)
            replace Qt := Lib.hid (Qt.out.below hb)
            clear hb
            go_wp2_with fail
            refine hK.out _ _ ⟨(BD.out.cell (p := ⟨w.heap.size, 0, none⟩) nl).trans c0, (BD.out.cell (p := ⟨w.heap.size, 1, none⟩) nl1).trans c1, (BD.out.cell (p := ⟨w.heap.size, 2, none⟩) nl2).trans c2, (BD.out.cell (p := ⟨w.heap.size, 3, none⟩) nl3).trans c3⟩ (fun hHeld => ?_)
            clear hK K
            try simp only [Act.put, List.setIfInBounds_toArray, List.set_cons_zero, List.set_cons_succ]
            refine wpAnyH_take (i := 21) (v := ?vv1017) (by simp only [List.getElem?_toArray, List.getElem?_cons_zero, List.getElem?_cons_succ]; rfl) (by kernel_rfl) (by kernel_rfl) (by kernel_rfl) (fun _ _ _ h => h) (Or.inl ⟨by rfl, ?yy1017⟩) (by assumption) ?rr1017
            case yy1017 => (intro w hSw; (try dsimp only at hSw); go_simp; first | done | with_reducible rfl)
            simp only [Act.put, List.setIfInBounds_toArray, List.set_cons_zero, List.set_cons_succ]
            refine wpAnyH_take (i := 22) (v := ?vv1018) (by simp only [List.getElem?_toArray, List.getElem?_cons_zero, List.getElem?_cons_succ]; rfl) (by kernel_rfl) (by kernel_rfl) (by kernel_rfl) (fun _ _ _ h => h) (Or.inl ⟨by rfl, ?yy1018⟩) (by assumption) ?rr1018
            case yy1018 => (intro w hSw; (try dsimp only at hSw); go_simp; first | done | with_reducible rfl)
            simp only [Act.put, List.setIfInBounds_toArray, List.set_cons_zero, List.set_cons_succ]
            refine wpAnyH_take (i := 23) (v := ?vv1019) (by simp only [List.getElem?_toArray, List.getElem?_cons_zero, List.getElem?_cons_succ]; rfl) (by kernel_rfl) (by kernel_rfl) (by kernel_rfl) (fun _ _ _ h => h) (Or.inl ⟨by rfl, ?yy1019⟩) (by assumption) ?rr1019
            case yy1019 => (intro w hSw; (try dsimp only at hSw); go_simp; first | done | with_reducible rfl)
            simp only [Act.put, List.setIfInBounds_toArray, List.set_cons_zero, List.set_cons_succ]
            refine wpAnyH_take (i := 24) (v := ?vv1020) (by simp only [List.getElem?_toArray, List.getElem?_cons_zero, List.getElem?_cons_succ]; rfl) (by kernel_rfl) (by kernel_rfl) (by kernel_rfl) (fun _ _ _ h => h) (Or.inl ⟨by rfl, ?yy1020⟩) (by assumption) ?rr1020
            case yy1020 => (intro w hSw; (try dsimp only at hSw); go_simp; first | done | with_reducible rfl)
            simp only [Act.put, List.setIfInBounds_toArray, List.set_cons_zero, List.set_cons_succ]
            refine wpAnyH_take (i := 25) (v := ?vv1021) (by simp only [List.getElem?_toArray, List.getElem?_cons_zero, List.getElem?_cons_succ]; rfl) (by kernel_rfl) (by kernel_rfl) (by kernel_rfl) (fun _ _ _ h => h) (Or.inl ⟨by rfl, ?yy1021⟩) (by assumption) ?rr1021
            case yy1021 => (intro w hSw; (try dsimp only at hSw); go_simp; first | done | with_reducible rfl)
            simp only [Act.put, List.setIfInBounds_toArray, List.set_cons_zero, List.set_cons_succ]
            refine wpAnyH_take (i := 26) (v := ?vv1022) (by simp only [List.getElem?_toArray, List.getElem?_cons_zero, List.getElem?_cons_succ]; rfl) (by kernel_rfl) (by kernel_rfl) (by kernel_rfl) (fun _ _ _ h => h) (Or.inl ⟨by rfl, ?yy1022⟩) (by assumption) ?rr1022
            case yy1022 => (intro w hSw; (try dsimp only at hSw); go_simp; first | done | with_reducible rfl)
            simp only [Act.put, List.setIfInBounds_toArray, List.set_cons_zero, List.set_cons_succ]
            refine wpAnyH_take (i := 27) (v := ?vv1023) (by simp only [List.getElem?_toArray, List.getElem?_cons_zero, List.getElem?_cons_succ]; rfl) (by kernel_rfl) (by kernel_rfl) (by kernel_rfl) (fun _ _ _ h => h) (Or.inl ⟨by rfl, ?yy1023⟩) (by assumption) ?rr1023
            case yy1023 => (intro w hSw; (try dsimp only at hSw); go_simp; first | done | with_reducible rfl)
            simp only [Act.put, List.setIfInBounds_toArray, List.set_cons_zero, List.set_cons_succ]
            refine wpAnyH_take (i := 28) (v := ?vv1024) (by simp only [List.getElem?_toArray, List.getElem?_cons_zero, List.getElem?_cons_succ]; rfl) (by kernel_rfl) (by kernel_rfl) (by kernel_rfl) (fun _ _ _ h => h) (Or.inl ⟨by rfl, ?yy1024⟩) (by assumption) ?rr1024
            case yy1024 => (intro w hSw; (try dsimp only at hSw); go_simp; first | done | with_reducible rfl)
            simp only [Act.put, List.setIfInBounds_toArray, List.set_cons_zero, List.set_cons_succ]
            refine wpAnyH_take (i := 29) (v := ?vv1025) (by simp only [List.getElem?_toArray, List.getElem?_cons_zero, List.getElem?_cons_succ]; rfl) (by kernel_rfl) (by kernel_rfl) (by kernel_rfl) (fun _ _ _ h => h) (Or.inl ⟨by rfl, ?yy1025⟩) (by assumption) ?rr1025
            case yy1025 => (intro w hSw; (try dsimp only at hSw); go_simp; first | done | with_reducible rfl)
            simp only [Act.put, List.setIfInBounds_toArray, List.set_cons_zero, List.set_cons_succ]
            refine wpAnyH_done (by kernel_rfl) ?_ _
            refine NoPanic.normal ?_
            clear hHeld
            have BF := Lib.hid (chain B7.out (chain hd BD.out))
            go_wp2_with fail
            go_ret
            exact ⟨rfl, BF.out⟩
          exact AllReadyH.nil
        exact AllReadyH.nil
      exact AllReadyH.nil
    exact AllReadyH.nil
  exact AllReadyH.nil

end Go.Proofs.YtklgjhldebdegaaGreat

namespace Go.Proofs.YtklgjhldebdegaaGreat.evalExact
open Go.ChangeShapes Go.WideShapes Go.ChangeAt Go.RowKit

set_option maxRecDepth 100000 in
theorem lifted (os : Os) (started : os.Started) (H : Type) (enc : TypeId × Value → H) :
    ReturnsInHanded {} Tryz.checked os 4 .any (Rows.evalExactSpec.pre6 enc Tryz.prog Tryz.f4 Rows.evalExactRow.domain false) (Rows.evalExactSpec.post enc Tryz.prog Tryz.f4 false true false false) := by
  refine returnsInHanded_of_change (C := Tryz.checked) Tryz.own started (by kernel_rfl) Tryz.func4
    (ChangeSpec.witness6 (enc := enc) (C := Tryz.checked) false ⟨#[], #[.agg #[.int .i64 0, .int .i64 0, .int .i64 0, .slice none 0 0], .int .u64 0, .int .u8 0, .slice none 0 0, .slice none 0 0, .slice none 0 0, .slice none 0 0], []⟩ 8 (by kernel_rfl) (by kernel_rfl) (by kernel_rfl) (by kernel_rfl)) ?_
  intro W base args ds gs before hval0 hW _ _
  have hval : ∀ (j : Nat) t v, Tryz.f4.params[j]? = some t → args[j]? = some v → Value.okWide Tryz.prog W .any base t v := hval0
  have hW' := hW
  obtain ⟨p, q, hA0, hV, rfl, hfz, hnd⟩ := hW
  have hA : DataW.TrodAll enc Tryz.prog W 0 (fun _ => true) true Tryz.f4.params.toList args.toList ds p := hA0
  rw [Tryz.params4] at hA hval
  obtain ⟨v0, vs0, d0, ds0, p0, q0, hargs, rfl, rfl, h0, r0⟩ := trodAll_cons hA
  obtain ⟨v1, vs1, d1, ds1, p1, q1, rfl, rfl, rfl, h1, r1⟩ := trodAll_cons r0
  obtain ⟨v2, vs2, d2, ds2, p2, q2, rfl, rfl, rfl, h2, r2⟩ := trodAll_cons r1
  obtain ⟨v3, vs3, d3, ds3, p3, q3, rfl, rfl, rfl, h3, r3⟩ := trodAll_cons r2
  obtain ⟨v4, vs4, d4, ds4, p4, q4, rfl, rfl, rfl, h4, r4⟩ := trodAll_cons r3
  obtain ⟨v5, vs5, d5, ds5, p5, q5, rfl, rfl, rfl, h5, r5⟩ := trodAll_cons r4
  obtain ⟨v6, vs6, d6, ds6, p6, q6, rfl, rfl, rfl, h6, r6⟩ := trodAll_cons r5
  obtain ⟨rfl, rfl, rfl⟩ := trodAll_nil r6
  obtain rfl : args = #[v0, v1, v2, v3, v4, v5, v6] := by cases args; simp_all
  obtain ⟨rfl, rfl⟩ := trodVars_none hV
  have k0 := h0
  have lt0 : ∀ x ∈ p0, x.block < W.heap.size := by obtain ⟨m, hm⟩ := k0; exact DataW.trod_lt m _ _ _ hm
  obtain ⟨c0, y0, x0, A0, n0, cap0, l0, rfl, e0, w0, b0, m0⟩ := net_open (hval 0 26 v0 rfl rfl) h0
  obtain ⟨a1, rfl, rfl, rfl, w1⟩ := open_int Tryz.underlying27 (hval 1 27 v1 rfl rfl) h1
  obtain ⟨u1, e1⟩ := u64_of_wf w1
  subst e1
  obtain ⟨a2, rfl, rfl, rfl, w2⟩ := open_int Tryz.underlying5 (hval 2 5 v2 rfl rfl) h2
  obtain ⟨A3, n3, cap3, rfl⟩ := okWide_slice Tryz.underlying28 (hval 3 28 v3 rfl rfl)
  have k3 := h3
  have lt3 : ∀ x ∈ p3, x.block < W.heap.size := by obtain ⟨m, hm⟩ := k3; exact DataW.trod_lt m _ _ _ hm
  obtain ⟨u3, e3, w3, b3⟩ := ru_open h3
  obtain ⟨A4, n4, cap4, rfl⟩ := okWide_slice Tryz.underlying28 (hval 4 28 v4 rfl rfl)
  have k4 := h4
  have lt4 : ∀ x ∈ p4, x.block < W.heap.size := by obtain ⟨m, hm⟩ := k4; exact DataW.trod_lt m _ _ _ hm
  obtain ⟨u4, e4, w4, b4⟩ := ru_open h4
  obtain ⟨A5, n5, cap5, rfl⟩ := okWide_slice Tryz.underlying28 (hval 5 28 v5 rfl rfl)
  have k5 := h5
  have lt5 : ∀ x ∈ p5, x.block < W.heap.size := by obtain ⟨m, hm⟩ := k5; exact DataW.trod_lt m _ _ _ hm
  obtain ⟨u5, e5, w5, b5⟩ := ru_open h5
  obtain ⟨A6, n6, cap6, rfl⟩ := okWide_slice Tryz.underlying28 (hval 6 28 v6 rfl rfl)
  have k6 := h6
  have lt6 : ∀ x ∈ p6, x.block < W.heap.size := by obtain ⟨m, hm⟩ := k6; exact DataW.trod_lt m _ _ _ hm
  obtain ⟨u6, e6, w6, b6⟩ := ru_open h6
  clear hA0 hval0
  refine (law_eexact c0 y0 x0 A0 cap0 n0 l0 u1 a2 A3 cap3 n3 u3 A4 cap4 n4 u4 A5 cap5 n5 u5 A6 cap6 n6 u6 W w0 e0 (bounds_u8 w2) w3 e3 w4 e4 w5 e5 w6 e6).mono fun e W' ⟨he, bel⟩ => ?_
  subst he
  exact ⟨_, rfl, _, _, _, [], _, [], hW', trodAll_mk1 (shut_bool Tryz.underlying4 _), (trodAll_cons_mk (Below.trod Tryz.laidOut (by kernel_rfl) (of_decide_eq_true (by kernel_rfl)) k0 bel lt0) (trodAll_cons_mk (shut_int Tryz.underlying27 w1) (trodAll_cons_mk (shut_int Tryz.underlying5 w2) (trodAll_cons_mk (Below.trod Tryz.laidOut (by kernel_rfl) (of_decide_eq_true (by kernel_rfl)) k3 bel lt3) (trodAll_cons_mk (Below.trod Tryz.laidOut (by kernel_rfl) (of_decide_eq_true (by kernel_rfl)) k4 bel lt4) (trodAll_cons_mk (Below.trod Tryz.laidOut (by kernel_rfl) (of_decide_eq_true (by kernel_rfl)) k5 bel lt5) (trodAll_cons_mk (Below.trod Tryz.laidOut (by kernel_rfl) (of_decide_eq_true (by kernel_rfl)) k6 bel lt6) trodAll_mk0))))))), rfl, bel.frame _, fun h => by cases h⟩

theorem proved : Rows.EvalExactSaid :=
  OpenClaim.holds_of_wide 4 Tryz.f4 rfl rfl rfl rfl rfl rfl rfl ⟨rfl, rfl, rfl, rfl, rfl⟩ rfl rfl rfl rfl rfl (by kernel_rfl) Tryz.func4 (by kernel_rfl)
    (of_decide_eq_true (by kernel_rfl)) (by unfold Func.isWrapper; first | (rw [if_pos (by decide +kernel)]; kernel_rfl) | (rw [if_neg (by decide +kernel)]; exact ⟨rfl, rfl⟩))
    (fun os started H enc _ => lifted os started H enc)

end Go.Proofs.YtklgjhldebdegaaGreat.evalExact

namespace Go.Proofs.YtklgjhldebdegaaGreat
theorem evalExact_proved : Rows.EvalExactSaid := evalExact.proved
#print axioms evalExact_proved
end Go.Proofs.YtklgjhldebdegaaGreat
