/-
  What the laws of this seat stand on, part 13.
-/
import Derived.Test.YtklgjhldebdegaaB12
import Derived.Deep.RegionHeld3
import Derived.ProofKit
import Derived.OpenShut
import Derived.ChangeOld
import Derived.Deep.Strs
import Derived.Deep.Slices
import Derived.Deep.Fields
import Derived.ChangeSame
import Derived.Laws.StructEq
namespace Go.Proofs.Ytklgjhldebdegaa
open Go.RowKit

set_option maxHeartbeats 8000000 in
set_option maxRecDepth 100000 in
theorem law_eseeds (c h x : Int) (A : Option Addr) (cA n : Nat) (ls : List Ly) (z : UInt64) (y : UInt64) (s : Int) (X : Option Addr) (cX nx : Nat) (xs : List UInt64) (U : Option Addr) (cU nu : Nat) (us : List UInt64) (W : Option Addr) (cW nw : Nat) (ws : List UInt64) (V : Option Addr) (cV nv : Nat) (vs : List UInt64) (w : World) (hx : Rl w A ls) (ln : n = ls.length) (bs : 0 ≤ s ∧ s ≤ 255) (hX : Rg ucells w X xs) (lX : nx = xs.length) (hU : Rg ucells w U us) (lU : nu = us.length) (hW : Rg ucells w W ws) (lW : nw = ws.length) (hV : Rg ucells w V vs) (lV : nv = vs.length) :
    Calls Try.prog 3 #[.agg #[.int .i64 c, .int .i64 h, .int .i64 x, .slice A n cA], .int .u64 (uz z), .int .u64 (uz y), .int .u8 s, .slice X nx cX, .slice U nu cU, .slice W nw cW, .slice V nv cV] w fun e w' => e = .returned (.bool true) ∧ Below w.heap.size w w' := by
  have HRL := Lib.hid hx; have LRL := Lib.hid ln
  have HX := Lib.hid hX; have LX := Lib.hid lX
  have HU := Lib.hid hU; have LU := Lib.hid lU
  have HW := Lib.hid hW; have LW := Lib.hid lW
  have HV := Lib.hid hV; have LV := Lib.hid lV
  clear hx ln hX lX hU lU hW lW hV lV
  obtain ⟨kk, hkk⟩ : ∃ kk : Nat, s % 9 = kk := ⟨(s % 9).toNat, by omega⟩
  obtain ⟨bs0, bs1⟩ := bs
  have kk9 : kk < 9 := by omega
  by_cases hg : 60 < n ∨ 3000 < nx ∨ 3000 < nu ∨ 3000 < nw ∨ 3000 < nv
  · have hgr : (anyB [⟨X, nx, cX⟩, ⟨U, nu, cU⟩, ⟨W, nw, cW⟩, ⟨V, nv, cV⟩] || decide (60 < (n : Int))) = true := by unfold anyB; simp; omega
    go_enter Try.func3, Try.ntmps3
    go_wp2_with fail
    refine (head13_any _).mono ?_
    rintro e w1 ⟨rfl, hb⟩
    have B1 := Lib.hid (chain ((Below.refl w.heap.size w).alloc (Nat.le_refl _) _) hb)
    have N1 := Lib.hid ((NB.new w c h x (.slice A n cA)).below hb)
    clear hb
    obtain ⟨c0, c1, c2, c3⟩ := N1.out.cells
    have nl := N1.out.lt
    go_wp2_with fail
    refine (great13 c h x A cA n _ 4 _ [⟨X, nx, cX⟩, ⟨U, nu, cU⟩, ⟨W, nw, cW⟩, ⟨V, nv, cV⟩] _ true hgr (rg_block (heap_alloc_new _ _) rfl) rfl (by decide)).mono ?_
    rintro e w2 ⟨rfl, hb⟩
    replace hb := ((Below.refl w1.heap.size w1).alloc (Nat.le_refl _) _).trans (hb.mono (by simp))
    have B2 := Lib.hid (chain B1.out hb)
    have N2 := Lib.hid (N1.out.below hb)
    clear hb c0 c1 c2 c3 nl B1 N1
    obtain ⟨c0, c1, c2, c3⟩ := N2.out.cells
    have nl := N2.out.lt
    go_wp2_with fail
    go_ret
    exact ⟨rfl, B2.out⟩
  have hgr : (anyB [⟨X, nx, cX⟩, ⟨U, nu, cU⟩, ⟨W, nw, cW⟩, ⟨V, nv, cV⟩] || decide (60 < (n : Int))) = false := by unfold anyB; simp; omega
  have hn60 : n ≤ 60 := by omega
  have hn1 : n ≤ 1000 := by omega
  have bX : nx ≤ 3000 := by omega
  have bU : nu ≤ 3000 := by omega
  have bW : nw ≤ 3000 := by omega
  have bV : nv ≤ 3000 := by omega
  clear hg
  obtain ⟨la, hla⟩ : ∃ q, q = lineU ⟨c, h, x, ls⟩ 0 z (kk : Int) xs ws := ⟨_, rfl⟩
  obtain ⟨ba, hba⟩ : ∃ q, q = okLn ⟨c, h, x, ls⟩ (kk : Int) xs ws := ⟨_, rfl⟩
  have Hla := Lib.hid hla; have Hba := Lib.hid hba
  obtain ⟨lb, hlb⟩ : ∃ q, q = lineU ⟨c, h, x, ls⟩ 1 z (kk : Int) us vs := ⟨_, rfl⟩
  obtain ⟨bb, hbb⟩ : ∃ q, q = okLn ⟨c, h, x, ls⟩ (kk : Int) us vs := ⟨_, rfl⟩
  have Hlb := Lib.hid hlb; have Hbb := Lib.hid hbb
  obtain ⟨lc, hlc⟩ : ∃ q, q = lineU ⟨c, h, x, ls⟩ 0 y (kk : Int) xs ws := ⟨_, rfl⟩
  obtain ⟨bc, hbc⟩ : ∃ q, q = okLn ⟨c, h, x, ls⟩ (kk : Int) xs ws := ⟨_, rfl⟩
  have Hlc := Lib.hid hlc; have Hbc := Lib.hid hbc
  obtain ⟨ld, hld⟩ : ∃ q, q = lineU ⟨c, h, x, ls⟩ 1 y (kk : Int) us vs := ⟨_, rfl⟩
  obtain ⟨bd, hbd⟩ : ∃ q, q = okLn ⟨c, h, x, ls⟩ (kk : Int) us vs := ⟨_, rfl⟩
  have Hld := Lib.hid hld; have Hbd := Lib.hid hbd
  obtain rfl : bc = ba := hbc.trans hba.symm
  obtain rfl : bd = bb := hbd.trans hbb.symm
  clear hba hbb Hba Hbb
  have CA : Hid (∀ (X : Option Addr) (cX nx : Nat) (Y : Option Addr) (cY ny : Nat) (w' : World), Rl w' A ls → Rg ucells w' X xs → nx = (xs).length → Rg ucells w' Y ws → ny = (ws).length → Calls Try.prog 6 #[.agg #[.int .i64 c, .int .i64 h, .int .i64 x, .slice A n cA], .int .i64 0, .int .u64 (uz z), .int .i64 (kk : Int), .slice X nx cX, .slice Y ny cY] w' (PairTo la bc w')) := fun X cX nx Y cY ny w' z0 z1 z2 z3 z4 => by rw [hla, hbc]; exact line13 c h x A X Y cA n cX nx cY ny ls xs ws 0 z (kk : Int) w' z0 LRL.out hn60 z1 z2 z3 z4
  have CB : Hid (∀ (X : Option Addr) (cX nx : Nat) (Y : Option Addr) (cY ny : Nat) (w' : World), Rl w' A ls → Rg ucells w' X us → nx = (us).length → Rg ucells w' Y vs → ny = (vs).length → Calls Try.prog 6 #[.agg #[.int .i64 c, .int .i64 h, .int .i64 x, .slice A n cA], .int .i64 1, .int .u64 (uz z), .int .i64 (kk : Int), .slice X nx cX, .slice Y ny cY] w' (PairTo lb bd w')) := fun X cX nx Y cY ny w' z0 z1 z2 z3 z4 => by rw [hlb, hbd]; exact line13 c h x A X Y cA n cX nx cY ny ls us vs 1 z (kk : Int) w' z0 LRL.out hn60 z1 z2 z3 z4
  have CC : Hid (∀ (X : Option Addr) (cX nx : Nat) (Y : Option Addr) (cY ny : Nat) (w' : World), Rl w' A ls → Rg ucells w' X xs → nx = (xs).length → Rg ucells w' Y ws → ny = (ws).length → Calls Try.prog 6 #[.agg #[.int .i64 c, .int .i64 h, .int .i64 x, .slice A n cA], .int .i64 0, .int .u64 (uz y), .int .i64 (kk : Int), .slice X nx cX, .slice Y ny cY] w' (PairTo lc bc w')) := fun X cX nx Y cY ny w' z0 z1 z2 z3 z4 => by rw [hlc, hbc]; exact line13 c h x A X Y cA n cX nx cY ny ls xs ws 0 y (kk : Int) w' z0 LRL.out hn60 z1 z2 z3 z4
  have CD : Hid (∀ (X : Option Addr) (cX nx : Nat) (Y : Option Addr) (cY ny : Nat) (w' : World), Rl w' A ls → Rg ucells w' X us → nx = (us).length → Rg ucells w' Y vs → ny = (vs).length → Calls Try.prog 6 #[.agg #[.int .i64 c, .int .i64 h, .int .i64 x, .slice A n cA], .int .i64 1, .int .u64 (uz y), .int .i64 (kk : Int), .slice X nx cX, .slice Y ny cY] w' (PairTo ld bd w')) := fun X cX nx Y cY ny w' z0 z1 z2 z3 z4 => by rw [hld, hbd]; exact line13 c h x A X Y cA n cX nx cY ny ls us vs 1 y (kk : Int) w' z0 LRL.out hn60 z1 z2 z3 z4
  by_cases tbc : bc = true
  case neg =>
    obtain rfl : bc = false := by simpa using tbc
    clear tbc
    clear hla hlb hlc hld hbc hbd Hbc Hbd
    go_enter Try.func3, Try.ntmps3
    go_wp2_with fail
    refine (head13_any _).mono ?_
    rintro e w1 ⟨rfl, hb⟩
    have B1 := Lib.hid (chain ((Below.refl w.heap.size w).alloc (Nat.le_refl _) _) hb)
    have N1 := Lib.hid ((NB.new w c h x (.slice A n cA)).below hb)
    clear hb
    obtain ⟨c0, c1, c2, c3⟩ := N1.out.cells
    have nl := N1.out.lt
    go_wp2_with fail
    refine (great13 c h x A cA n _ 4 _ [⟨X, nx, cX⟩, ⟨U, nu, cU⟩, ⟨W, nw, cW⟩, ⟨V, nv, cV⟩] _ false hgr (rg_block (heap_alloc_new _ _) rfl) rfl (by decide)).mono ?_
    rintro e w2 ⟨rfl, hb⟩
    replace hb := ((Below.refl w1.heap.size w1).alloc (Nat.le_refl _) _).trans (hb.mono (by simp))
    have B2 := Lib.hid (chain B1.out hb)
    have N2 := Lib.hid (N1.out.below hb)
    clear hb c0 c1 c2 c3 nl B1 N1
    obtain ⟨c0, c1, c2, c3⟩ := N2.out.cells
    have nl := N2.out.lt
    go_wp2_with fail
    refine (CA.out X cX nx W cW nw _ (HRL.out.below B2.out) (HX.out.below B2.out) LX.out (HW.out.below B2.out) LW.out).mono ?_
    rintro e w3 ⟨Aa, ka, na, rfl, h1, h2, hb, h4, h5⟩
    have Ma := Lib.hid h1; have Qa := Lib.hid h2
    clear h1 h2 h4 h5
    have B3 := Lib.hid (chain B2.out hb)
    have N3 := Lib.hid (N2.out.below hb)
    clear hb c0 c1 c2 c3 nl B2 N2
    obtain ⟨c0, c1, c2, c3⟩ := N3.out.cells
    have nl := N3.out.lt
    go_wp2_with fail
    refine (CB.out U cU nu V cV nv _ (HRL.out.below B3.out) (HU.out.below B3.out) LU.out (HV.out.below B3.out) LV.out).mono ?_
    rintro e w4 ⟨Ab, kb, nb, rfl, h1, h2, hb, h4, h5⟩
    have Mb := Lib.hid h1; have Qb := Lib.hid h2
    clear h1 h2 h4 h5
    have B4 := Lib.hid (chain B3.out hb)
    have N4 := Lib.hid (N3.out.below hb)
    replace Qa := Lib.hid (Qa.out.below hb)
    clear hb c0 c1 c2 c3 nl B3 N3
    obtain ⟨c0, c1, c2, c3⟩ := N4.out.cells
    have nl := N4.out.lt
    go_wp2_with fail
    refine (CC.out X cX nx W cW nw _ (HRL.out.below B4.out) (HX.out.below B4.out) LX.out (HW.out.below B4.out) LW.out).mono ?_
    rintro e w5 ⟨Ac, kc, nc, rfl, h1, h2, hb, h4, h5⟩
    have Mc := Lib.hid h1; have Qc := Lib.hid h2
    clear h1 h2 h4 h5
    have B5 := Lib.hid (chain B4.out hb)
    have N5 := Lib.hid (N4.out.below hb)
    replace Qa := Lib.hid (Qa.out.below hb)
    replace Qb := Lib.hid (Qb.out.below hb)
    clear hb c0 c1 c2 c3 nl B4 N4
    obtain ⟨c0, c1, c2, c3⟩ := N5.out.cells
    have nl := N5.out.lt
    go_wp2_with fail
    refine (CD.out U cU nu V cV nv _ (HRL.out.below B5.out) (HU.out.below B5.out) LU.out (HV.out.below B5.out) LV.out).mono ?_
    rintro e w6 ⟨Ad, kd, nd, rfl, h1, h2, hb, h4, h5⟩
    have Md := Lib.hid h1; have Qd := Lib.hid h2
    clear h1 h2 h4 h5
    have B6 := Lib.hid (chain B5.out hb)
    have N6 := Lib.hid (N5.out.below hb)
    replace Qa := Lib.hid (Qa.out.below hb)
    replace Qb := Lib.hid (Qb.out.below hb)
    replace Qc := Lib.hid (Qc.out.below hb)
    clear hb c0 c1 c2 c3 nl B5 N5
    obtain ⟨c0, c1, c2, c3⟩ := N6.out.cells
    have nl := N6.out.lt
    go_wp2_with fail
    go_ret
    exact ⟨rfl, B6.out⟩
  subst tbc
  by_cases tbd : bd = true
  case neg =>
    obtain rfl : bd = false := by simpa using tbd
    clear tbd
    clear hla hlb hlc hld hbc hbd Hbc Hbd
    go_enter Try.func3, Try.ntmps3
    go_wp2_with fail
    refine (head13_any _).mono ?_
    rintro e w1 ⟨rfl, hb⟩
    have B1 := Lib.hid (chain ((Below.refl w.heap.size w).alloc (Nat.le_refl _) _) hb)
    have N1 := Lib.hid ((NB.new w c h x (.slice A n cA)).below hb)
    clear hb
    obtain ⟨c0, c1, c2, c3⟩ := N1.out.cells
    have nl := N1.out.lt
    go_wp2_with fail
    refine (great13 c h x A cA n _ 4 _ [⟨X, nx, cX⟩, ⟨U, nu, cU⟩, ⟨W, nw, cW⟩, ⟨V, nv, cV⟩] _ false hgr (rg_block (heap_alloc_new _ _) rfl) rfl (by decide)).mono ?_
    rintro e w2 ⟨rfl, hb⟩
    replace hb := ((Below.refl w1.heap.size w1).alloc (Nat.le_refl _) _).trans (hb.mono (by simp))
    have B2 := Lib.hid (chain B1.out hb)
    have N2 := Lib.hid (N1.out.below hb)
    clear hb c0 c1 c2 c3 nl B1 N1
    obtain ⟨c0, c1, c2, c3⟩ := N2.out.cells
    have nl := N2.out.lt
    go_wp2_with fail
    refine (CA.out X cX nx W cW nw _ (HRL.out.below B2.out) (HX.out.below B2.out) LX.out (HW.out.below B2.out) LW.out).mono ?_
    rintro e w3 ⟨Aa, ka, na, rfl, h1, h2, hb, h4, h5⟩
    have Ma := Lib.hid h1; have Qa := Lib.hid h2
    clear h1 h2 h4 h5
    have B3 := Lib.hid (chain B2.out hb)
    have N3 := Lib.hid (N2.out.below hb)
    clear hb c0 c1 c2 c3 nl B2 N2
    obtain ⟨c0, c1, c2, c3⟩ := N3.out.cells
    have nl := N3.out.lt
    go_wp2_with fail
    refine (CB.out U cU nu V cV nv _ (HRL.out.below B3.out) (HU.out.below B3.out) LU.out (HV.out.below B3.out) LV.out).mono ?_
    rintro e w4 ⟨Ab, kb, nb, rfl, h1, h2, hb, h4, h5⟩
    have Mb := Lib.hid h1; have Qb := Lib.hid h2
    clear h1 h2 h4 h5
    have B4 := Lib.hid (chain B3.out hb)
    have N4 := Lib.hid (N3.out.below hb)
    replace Qa := Lib.hid (Qa.out.below hb)
    clear hb c0 c1 c2 c3 nl B3 N3
    obtain ⟨c0, c1, c2, c3⟩ := N4.out.cells
    have nl := N4.out.lt
    go_wp2_with fail
    refine (CC.out X cX nx W cW nw _ (HRL.out.below B4.out) (HX.out.below B4.out) LX.out (HW.out.below B4.out) LW.out).mono ?_
    rintro e w5 ⟨Ac, kc, nc, rfl, h1, h2, hb, h4, h5⟩
    have Mc := Lib.hid h1; have Qc := Lib.hid h2
    clear h1 h2 h4 h5
    have B5 := Lib.hid (chain B4.out hb)
    have N5 := Lib.hid (N4.out.below hb)
    replace Qa := Lib.hid (Qa.out.below hb)
    replace Qb := Lib.hid (Qb.out.below hb)
    clear hb c0 c1 c2 c3 nl B4 N4
    obtain ⟨c0, c1, c2, c3⟩ := N5.out.cells
    have nl := N5.out.lt
    go_wp2_with fail
    refine (CD.out U cU nu V cV nv _ (HRL.out.below B5.out) (HU.out.below B5.out) LU.out (HV.out.below B5.out) LV.out).mono ?_
    rintro e w6 ⟨Ad, kd, nd, rfl, h1, h2, hb, h4, h5⟩
    have Md := Lib.hid h1; have Qd := Lib.hid h2
    clear h1 h2 h4 h5
    have B6 := Lib.hid (chain B5.out hb)
    have N6 := Lib.hid (N5.out.below hb)
    replace Qa := Lib.hid (Qa.out.below hb)
    replace Qb := Lib.hid (Qb.out.below hb)
    replace Qc := Lib.hid (Qc.out.below hb)
    clear hb c0 c1 c2 c3 nl B5 N5
    obtain ⟨c0, c1, c2, c3⟩ := N6.out.cells
    have nl := N6.out.lt
    go_wp2_with fail
    go_ret
    exact ⟨rfl, B6.out⟩
  subst tbd
  by_cases hS : (stagesN ⟨c, h, x, ls⟩).length ≤ kk
  · skip
    clear hla hlb hlc hld hbc hbd Hbc Hbd
    go_enter Try.func3, Try.ntmps3
    go_wp2_with fail
    refine (head13_any _).mono ?_
    rintro e w1 ⟨rfl, hb⟩
    have B1 := Lib.hid (chain ((Below.refl w.heap.size w).alloc (Nat.le_refl _) _) hb)
    have N1 := Lib.hid ((NB.new w c h x (.slice A n cA)).below hb)
    clear hb
    obtain ⟨c0, c1, c2, c3⟩ := N1.out.cells
    have nl := N1.out.lt
    go_wp2_with fail
    refine (great13 c h x A cA n _ 4 _ [⟨X, nx, cX⟩, ⟨U, nu, cU⟩, ⟨W, nw, cW⟩, ⟨V, nv, cV⟩] _ false hgr (rg_block (heap_alloc_new _ _) rfl) rfl (by decide)).mono ?_
    rintro e w2 ⟨rfl, hb⟩
    replace hb := ((Below.refl w1.heap.size w1).alloc (Nat.le_refl _) _).trans (hb.mono (by simp))
    have B2 := Lib.hid (chain B1.out hb)
    have N2 := Lib.hid (N1.out.below hb)
    clear hb c0 c1 c2 c3 nl B1 N1
    obtain ⟨c0, c1, c2, c3⟩ := N2.out.cells
    have nl := N2.out.lt
    go_wp2_with fail
    refine (CA.out X cX nx W cW nw _ (HRL.out.below B2.out) (HX.out.below B2.out) LX.out (HW.out.below B2.out) LW.out).mono ?_
    rintro e w3 ⟨Aa, ka, na, rfl, h1, h2, hb, h4, h5⟩
    have Ma := Lib.hid h1; have Qa := Lib.hid h2
    clear h1 h2 h4 h5
    have B3 := Lib.hid (chain B2.out hb)
    have N3 := Lib.hid (N2.out.below hb)
    clear hb c0 c1 c2 c3 nl B2 N2
    obtain ⟨c0, c1, c2, c3⟩ := N3.out.cells
    have nl := N3.out.lt
    go_wp2_with fail
    refine (CB.out U cU nu V cV nv _ (HRL.out.below B3.out) (HU.out.below B3.out) LU.out (HV.out.below B3.out) LV.out).mono ?_
    rintro e w4 ⟨Ab, kb, nb, rfl, h1, h2, hb, h4, h5⟩
    have Mb := Lib.hid h1; have Qb := Lib.hid h2
    clear h1 h2 h4 h5
    have B4 := Lib.hid (chain B3.out hb)
    have N4 := Lib.hid (N3.out.below hb)
    replace Qa := Lib.hid (Qa.out.below hb)
    clear hb c0 c1 c2 c3 nl B3 N3
    obtain ⟨c0, c1, c2, c3⟩ := N4.out.cells
    have nl := N4.out.lt
    go_wp2_with fail
    refine (CC.out X cX nx W cW nw _ (HRL.out.below B4.out) (HX.out.below B4.out) LX.out (HW.out.below B4.out) LW.out).mono ?_
    rintro e w5 ⟨Ac, kc, nc, rfl, h1, h2, hb, h4, h5⟩
    have Mc := Lib.hid h1; have Qc := Lib.hid h2
    clear h1 h2 h4 h5
    have B5 := Lib.hid (chain B4.out hb)
    have N5 := Lib.hid (N4.out.below hb)
    replace Qa := Lib.hid (Qa.out.below hb)
    replace Qb := Lib.hid (Qb.out.below hb)
    clear hb c0 c1 c2 c3 nl B4 N4
    obtain ⟨c0, c1, c2, c3⟩ := N5.out.cells
    have nl := N5.out.lt
    go_wp2_with fail
    refine (CD.out U cU nu V cV nv _ (HRL.out.below B5.out) (HU.out.below B5.out) LU.out (HV.out.below B5.out) LV.out).mono ?_
    rintro e w6 ⟨Ad, kd, nd, rfl, h1, h2, hb, h4, h5⟩
    have Md := Lib.hid h1; have Qd := Lib.hid h2
    clear h1 h2 h4 h5
    have B6 := Lib.hid (chain B5.out hb)
    have N6 := Lib.hid (N5.out.below hb)
    replace Qa := Lib.hid (Qa.out.below hb)
    replace Qb := Lib.hid (Qb.out.below hb)
    replace Qc := Lib.hid (Qc.out.below hb)
    clear hb c0 c1 c2 c3 nl B5 N5
    obtain ⟨c0, c1, c2, c3⟩ := N6.out.cells
    have nl := N6.out.lt
    go_wp2_with fail
    refine (rstages8 c h x A cA n ls _ (HRL.out.below B6.out) LRL.out hn60).mono ?_
    rintro e w7 ⟨AS, kS, nS, rfl, hnS, hRS, hb, hd1, hd2⟩
    have MS := Lib.hid hnS
    clear hnS hRS hd1 hd2
    have B7 := Lib.hid (chain B6.out hb)
    have N7 := Lib.hid (N6.out.below hb)
    replace Qa := Lib.hid (Qa.out.below hb)
    replace Qb := Lib.hid (Qb.out.below hb)
    replace Qc := Lib.hid (Qc.out.below hb)
    replace Qd := Lib.hid (Qd.out.below hb)
    clear hb c0 c1 c2 c3 nl B6 N6
    obtain ⟨c0, c1, c2, c3⟩ := N7.out.cells
    have nl := N7.out.lt
    have dS : nS ≤ kk := by rw [MS.out]; exact hS
    clear hS
    go_wp2_with fail
    go_ret
    exact ⟨rfl, B7.out⟩
  have hS := Nat.lt_of_not_le hS
  have oa : okLn ⟨c, h, x, ls⟩ (kk : Int) xs ws = true := hbc.symm
  have ob : okLn ⟨c, h, x, ls⟩ (kk : Int) us vs = true := hbd.symm
  have fa : okNx ⟨c, h, x, ls⟩ (kk : Int) la lb = true := by rw [hla, hlb]; exact line_fits oa ob
  have fb : okNx ⟨c, h, x, ls⟩ (kk : Int) lb la = true := by rw [hla, hlb]; exact line_fits ob oa
  have fc : okNx ⟨c, h, x, ls⟩ (kk : Int) lc ld = true := by rw [hlc, hld]; exact line_fits oa ob
  have fd : okNx ⟨c, h, x, ls⟩ (kk : Int) ld lc = true := by rw [hlc, hld]; exact line_fits ob oa
  obtain ⟨E1, E2⟩ := next_exact (z := z) hS oa ob
  obtain ⟨E3, E4⟩ := next_exact (z := y) hS oa ob
  rw [← hla, ← hlb] at E1 E2
  rw [← hlc, ← hld] at E3 E4
  have he := (isSt_out (okLn_out oa).1).1
  have hne : ¬ ((kk : Int) = ((stagesN ⟨c, h, x, ls⟩).length : Int)) := by omega
  have LAC : Hid (la.length = lc.length ∧ la.length ≤ 1024 ∧ (z ≠ y → la ≠ lc)) := by
    show _ ∧ _ ∧ _
    have e1 : la = goesU ⟨c, h, x, ls⟩ 0 z kk xs ws := by rw [hla]; unfold lineU; rw [if_pos oa, if_neg hne]; rfl
    have e2 : lc = goesU ⟨c, h, x, ls⟩ 0 y kk xs ws := by rw [hlc]; unfold lineU; rw [if_pos oa, if_neg hne]; rfl
    have := many_bd he hS
    have := gates_bd (c := c) (h := h) (x := x) (ls := ls)
    refine ⟨by rw [e1, e2, goes_len, goes_len], by rw [e1, goes_len]; omega, fun q => by rw [e1, e2]; exact goes_unlike he hS 0 q xs ws⟩
  have LBD : Hid (lb.length = ld.length ∧ lb.length ≤ 1024 ∧ (z ≠ y → lb ≠ ld)) := by
    show _ ∧ _ ∧ _
    have e1 : lb = goesU ⟨c, h, x, ls⟩ 1 z kk us vs := by rw [hlb]; unfold lineU; rw [if_pos ob, if_neg hne]; rfl
    have e2 : ld = goesU ⟨c, h, x, ls⟩ 1 y kk us vs := by rw [hld]; unfold lineU; rw [if_pos ob, if_neg hne]; rfl
    have := many_bd he hS
    have := gates_bd (c := c) (h := h) (x := x) (ls := ls)
    refine ⟨by rw [e1, e2, goes_len, goes_len], by rw [e1, goes_len]; omega, fun q => by rw [e1, e2]; exact goes_unlike he hS 1 q us vs⟩
  obtain ⟨pa, hpa⟩ : ∃ q, q = nextU ⟨c, h, x, ls⟩ 0 z (kk : Int) la lb := ⟨_, rfl⟩
  obtain ⟨bp, hbp⟩ : ∃ q, q = okNx ⟨c, h, x, ls⟩ (kk : Int) la lb := ⟨_, rfl⟩
  have Hpa := Lib.hid hpa; have Hbp := Lib.hid hbp
  obtain ⟨pb, hpb⟩ : ∃ q, q = nextU ⟨c, h, x, ls⟩ 1 z (kk : Int) lb la := ⟨_, rfl⟩
  obtain ⟨bq, hbq⟩ : ∃ q, q = okNx ⟨c, h, x, ls⟩ (kk : Int) lb la := ⟨_, rfl⟩
  have Hpb := Lib.hid hpb; have Hbq := Lib.hid hbq
  obtain ⟨pc, hpc⟩ : ∃ q, q = nextU ⟨c, h, x, ls⟩ 0 y (kk : Int) lc ld := ⟨_, rfl⟩
  obtain ⟨br, hbr⟩ : ∃ q, q = okNx ⟨c, h, x, ls⟩ (kk : Int) lc ld := ⟨_, rfl⟩
  have Hpc := Lib.hid hpc; have Hbr := Lib.hid hbr
  obtain ⟨pd, hpd⟩ : ∃ q, q = nextU ⟨c, h, x, ls⟩ 1 y (kk : Int) ld lc := ⟨_, rfl⟩
  obtain ⟨bt, hbt⟩ : ∃ q, q = okNx ⟨c, h, x, ls⟩ (kk : Int) ld lc := ⟨_, rfl⟩
  have Hpd := Lib.hid hpd; have Hbt := Lib.hid hbt
  have CE : Hid (∀ (X : Option Addr) (cX nx : Nat) (Y : Option Addr) (cY ny : Nat) (w' : World), Rl w' A ls → Rg ucells w' X la → nx = (la).length → Rg ucells w' Y lb → ny = (lb).length → Calls Try.prog 8 #[.agg #[.int .i64 c, .int .i64 h, .int .i64 x, .slice A n cA], .int .i64 0, .int .u64 (uz z), .int .i64 (kk : Int), .slice X nx cX, .slice Y ny cY] w' (PairTo pa bp w')) := fun X cX nx Y cY ny w' z0 z1 z2 z3 z4 => by rw [hpa, hbp]; exact next13 c h x A X Y cA n cX nx cY ny ls la lb 0 z (kk : Int) w' z0 LRL.out hn60 z1 z2 z3 z4
  have CF : Hid (∀ (X : Option Addr) (cX nx : Nat) (Y : Option Addr) (cY ny : Nat) (w' : World), Rl w' A ls → Rg ucells w' X lb → nx = (lb).length → Rg ucells w' Y la → ny = (la).length → Calls Try.prog 8 #[.agg #[.int .i64 c, .int .i64 h, .int .i64 x, .slice A n cA], .int .i64 1, .int .u64 (uz z), .int .i64 (kk : Int), .slice X nx cX, .slice Y ny cY] w' (PairTo pb bq w')) := fun X cX nx Y cY ny w' z0 z1 z2 z3 z4 => by rw [hpb, hbq]; exact next13 c h x A X Y cA n cX nx cY ny ls lb la 1 z (kk : Int) w' z0 LRL.out hn60 z1 z2 z3 z4
  have CG : Hid (∀ (X : Option Addr) (cX nx : Nat) (Y : Option Addr) (cY ny : Nat) (w' : World), Rl w' A ls → Rg ucells w' X lc → nx = (lc).length → Rg ucells w' Y ld → ny = (ld).length → Calls Try.prog 8 #[.agg #[.int .i64 c, .int .i64 h, .int .i64 x, .slice A n cA], .int .i64 0, .int .u64 (uz y), .int .i64 (kk : Int), .slice X nx cX, .slice Y ny cY] w' (PairTo pc br w')) := fun X cX nx Y cY ny w' z0 z1 z2 z3 z4 => by rw [hpc, hbr]; exact next13 c h x A X Y cA n cX nx cY ny ls lc ld 0 y (kk : Int) w' z0 LRL.out hn60 z1 z2 z3 z4
  have CH : Hid (∀ (X : Option Addr) (cX nx : Nat) (Y : Option Addr) (cY ny : Nat) (w' : World), Rl w' A ls → Rg ucells w' X ld → nx = (ld).length → Rg ucells w' Y lc → ny = (lc).length → Calls Try.prog 8 #[.agg #[.int .i64 c, .int .i64 h, .int .i64 x, .slice A n cA], .int .i64 1, .int .u64 (uz y), .int .i64 (kk : Int), .slice X nx cX, .slice Y ny cY] w' (PairTo pd bt w')) := fun X cX nx Y cY ny w' z0 z1 z2 z3 z4 => by rw [hpd, hbt]; exact next13 c h x A X Y cA n cX nx cY ny ls ld lc 1 y (kk : Int) w' z0 LRL.out hn60 z1 z2 z3 z4
  obtain rfl : bp = true := hbp.trans fa
  obtain rfl : bq = true := hbq.trans fb
  obtain rfl : br = true := hbr.trans fc
  obtain rfl : bt = true := hbt.trans fd
  have SUM : Hid (addR pa pb = addR pc pd) := by
    show _ = _
    rw [hpa, hpb, hpc, hpd]
    exact E1.trans E3.symm
  have PB : Hid (pa.length ≤ 128 ∧ pc.length ≤ 128) := ⟨by rw [hpa]; exact next_bd _ _ _ _ _ _, by rw [hpc]; exact next_bd _ _ _ _ _ _⟩
  have SAC : Hid (z = y → la = lc ∧ lb = ld) := fun e => by subst e; exact ⟨hla.trans hlc.symm, hlb.trans hld.symm⟩
  have KS := Lib.hid hS
  clear hla hlb hlc hld hbc hbd Hbc Hbd oa ob fa fb fc fd E1 E2 E3 E4 he hne hpa hpb hpc hpd hbp hbq hbr hbt hS
  by_cases zy : z = y
  · skip
    subst zy
    have dz : (uz z == uz z) = true := by simp
    go_enter Try.func3, Try.ntmps3
    go_wp2_with fail
    refine (head13_any _).mono ?_
    rintro e w1 ⟨rfl, hb⟩
    have B1 := Lib.hid (chain ((Below.refl w.heap.size w).alloc (Nat.le_refl _) _) hb)
    have N1 := Lib.hid ((NB.new w c h x (.slice A n cA)).below hb)
    clear hb
    obtain ⟨c0, c1, c2, c3⟩ := N1.out.cells
    have nl := N1.out.lt
    go_wp2_with fail
    refine (great13 c h x A cA n _ 4 _ [⟨X, nx, cX⟩, ⟨U, nu, cU⟩, ⟨W, nw, cW⟩, ⟨V, nv, cV⟩] _ false hgr (rg_block (heap_alloc_new _ _) rfl) rfl (by decide)).mono ?_
    rintro e w2 ⟨rfl, hb⟩
    replace hb := ((Below.refl w1.heap.size w1).alloc (Nat.le_refl _) _).trans (hb.mono (by simp))
    have B2 := Lib.hid (chain B1.out hb)
    have N2 := Lib.hid (N1.out.below hb)
    clear hb c0 c1 c2 c3 nl B1 N1
    obtain ⟨c0, c1, c2, c3⟩ := N2.out.cells
    have nl := N2.out.lt
    go_wp2_with fail
    refine (CA.out X cX nx W cW nw _ (HRL.out.below B2.out) (HX.out.below B2.out) LX.out (HW.out.below B2.out) LW.out).mono ?_
    rintro e w3 ⟨Aa, ka, na, rfl, h1, h2, hb, h4, h5⟩
    have Ma := Lib.hid h1; have Qa := Lib.hid h2
    clear h1 h2 h4 h5
    have B3 := Lib.hid (chain B2.out hb)
    have N3 := Lib.hid (N2.out.below hb)
    clear hb c0 c1 c2 c3 nl B2 N2
    obtain ⟨c0, c1, c2, c3⟩ := N3.out.cells
    have nl := N3.out.lt
    go_wp2_with fail
    refine (CB.out U cU nu V cV nv _ (HRL.out.below B3.out) (HU.out.below B3.out) LU.out (HV.out.below B3.out) LV.out).mono ?_
    rintro e w4 ⟨Ab, kb, nb, rfl, h1, h2, hb, h4, h5⟩
    have Mb := Lib.hid h1; have Qb := Lib.hid h2
    clear h1 h2 h4 h5
    have B4 := Lib.hid (chain B3.out hb)
    have N4 := Lib.hid (N3.out.below hb)
    replace Qa := Lib.hid (Qa.out.below hb)
    clear hb c0 c1 c2 c3 nl B3 N3
    obtain ⟨c0, c1, c2, c3⟩ := N4.out.cells
    have nl := N4.out.lt
    go_wp2_with fail
    refine (CC.out X cX nx W cW nw _ (HRL.out.below B4.out) (HX.out.below B4.out) LX.out (HW.out.below B4.out) LW.out).mono ?_
    rintro e w5 ⟨Ac, kc, nc, rfl, h1, h2, hb, h4, h5⟩
    have Mc := Lib.hid h1; have Qc := Lib.hid h2
    clear h1 h2 h4 h5
    have B5 := Lib.hid (chain B4.out hb)
    have N5 := Lib.hid (N4.out.below hb)
    replace Qa := Lib.hid (Qa.out.below hb)
    replace Qb := Lib.hid (Qb.out.below hb)
    clear hb c0 c1 c2 c3 nl B4 N4
    obtain ⟨c0, c1, c2, c3⟩ := N5.out.cells
    have nl := N5.out.lt
    go_wp2_with fail
    refine (CD.out U cU nu V cV nv _ (HRL.out.below B5.out) (HU.out.below B5.out) LU.out (HV.out.below B5.out) LV.out).mono ?_
    rintro e w6 ⟨Ad, kd, nd, rfl, h1, h2, hb, h4, h5⟩
    have Md := Lib.hid h1; have Qd := Lib.hid h2
    clear h1 h2 h4 h5
    have B6 := Lib.hid (chain B5.out hb)
    have N6 := Lib.hid (N5.out.below hb)
    replace Qa := Lib.hid (Qa.out.below hb)
    replace Qb := Lib.hid (Qb.out.below hb)
    replace Qc := Lib.hid (Qc.out.below hb)
    clear hb c0 c1 c2 c3 nl B5 N5
    obtain ⟨c0, c1, c2, c3⟩ := N6.out.cells
    have nl := N6.out.lt
    go_wp2_with fail
    refine (rstages8 c h x A cA n ls _ (HRL.out.below B6.out) LRL.out hn60).mono ?_
    rintro e w7 ⟨AS, kS, nS, rfl, hnS, hRS, hb, hd1, hd2⟩
    have MS := Lib.hid hnS
    clear hnS hRS hd1 hd2
    have B7 := Lib.hid (chain B6.out hb)
    have N7 := Lib.hid (N6.out.below hb)
    replace Qa := Lib.hid (Qa.out.below hb)
    replace Qb := Lib.hid (Qb.out.below hb)
    replace Qc := Lib.hid (Qc.out.below hb)
    replace Qd := Lib.hid (Qd.out.below hb)
    clear hb c0 c1 c2 c3 nl B6 N6
    obtain ⟨c0, c1, c2, c3⟩ := N7.out.cells
    have nl := N7.out.lt
    have dS : nS ≤ kk → False := by rw [MS.out]; exact Nat.not_le.2 KS.out
    have dS2 : decide (nS ≤ kk) = false := decide_eq_false dS
    clear dS
    go_wp2_with fail
    refine (CE.out Aa ka na Ab kb nb _ (HRL.out.below B7.out) Qa.out Ma.out Qb.out Mb.out).mono ?_
    rintro e w8 ⟨Ae, ke, ne, rfl, h1, h2, hb, h4, h5⟩
    have Me := Lib.hid h1; have Qe := Lib.hid h2
    clear h1 h2 h4 h5
    have B8 := Lib.hid (chain B7.out hb)
    have N8 := Lib.hid (N7.out.below hb)
    replace Qa := Lib.hid (Qa.out.below hb)
    replace Qb := Lib.hid (Qb.out.below hb)
    replace Qc := Lib.hid (Qc.out.below hb)
    replace Qd := Lib.hid (Qd.out.below hb)
    clear hb c0 c1 c2 c3 nl B7 N7
    obtain ⟨c0, c1, c2, c3⟩ := N8.out.cells
    have nl := N8.out.lt
    go_wp2_with fail
    refine (CF.out Ab kb nb Aa ka na _ (HRL.out.below B8.out) Qb.out Mb.out Qa.out Ma.out).mono ?_
    rintro e w9 ⟨Af, kf, nf, rfl, h1, h2, hb, h4, h5⟩
    have Mf := Lib.hid h1; have Qf := Lib.hid h2
    clear h1 h2 h4 h5
    have B9 := Lib.hid (chain B8.out hb)
    have N9 := Lib.hid (N8.out.below hb)
    replace Qa := Lib.hid (Qa.out.below hb)
    replace Qb := Lib.hid (Qb.out.below hb)
    replace Qc := Lib.hid (Qc.out.below hb)
    replace Qd := Lib.hid (Qd.out.below hb)
    replace Qe := Lib.hid (Qe.out.below hb)
    clear hb c0 c1 c2 c3 nl B8 N8
    obtain ⟨c0, c1, c2, c3⟩ := N9.out.cells
    have nl := N9.out.lt
    go_wp2_with fail
    refine (CG.out Ac kc nc Ad kd nd _ (HRL.out.below B9.out) Qc.out Mc.out Qd.out Md.out).mono ?_
    rintro e w10 ⟨Ag, kg, ng, rfl, h1, h2, hb, h4, h5⟩
    have Mg := Lib.hid h1; have Qg := Lib.hid h2
    clear h1 h2 h4 h5
    have B10 := Lib.hid (chain B9.out hb)
    have N10 := Lib.hid (N9.out.below hb)
    replace Qa := Lib.hid (Qa.out.below hb)
    replace Qb := Lib.hid (Qb.out.below hb)
    replace Qc := Lib.hid (Qc.out.below hb)
    replace Qd := Lib.hid (Qd.out.below hb)
    replace Qe := Lib.hid (Qe.out.below hb)
    replace Qf := Lib.hid (Qf.out.below hb)
    clear hb c0 c1 c2 c3 nl B9 N9
    obtain ⟨c0, c1, c2, c3⟩ := N10.out.cells
    have nl := N10.out.lt
    go_wp2_with fail
    refine (CH.out Ad kd nd Ac kc nc _ (HRL.out.below B10.out) Qd.out Md.out Qc.out Mc.out).mono ?_
    rintro e w11 ⟨Aj, kj, nj, rfl, h1, h2, hb, h4, h5⟩
    have Mj := Lib.hid h1; have Qj := Lib.hid h2
    clear h1 h2 h4 h5
    have B11 := Lib.hid (chain B10.out hb)
    have N11 := Lib.hid (N10.out.below hb)
    replace Qa := Lib.hid (Qa.out.below hb)
    replace Qb := Lib.hid (Qb.out.below hb)
    replace Qc := Lib.hid (Qc.out.below hb)
    replace Qd := Lib.hid (Qd.out.below hb)
    replace Qe := Lib.hid (Qe.out.below hb)
    replace Qf := Lib.hid (Qf.out.below hb)
    replace Qg := Lib.hid (Qg.out.below hb)
    clear hb c0 c1 c2 c3 nl B10 N10
    obtain ⟨c0, c1, c2, c3⟩ := N11.out.cells
    have nl := N11.out.lt
    go_wp2_with fail
    refine (nadd Ae Af ke kf ne nf (pa) (pb) _ Qe.out Qf.out Me.out Mf.out (by rw [Me.out]; have := PB.out.1; omega)).mono ?_
    rintro e w12 ⟨Am, km, nm, rfl, h1, h2, hb, h4, h5, h6⟩
    have Mm := Lib.hid h1; have Qm := Lib.hid h2
    clear h1 h2 h4 h5 h6
    have B12 := Lib.hid (chain B11.out hb)
    have N12 := Lib.hid (N11.out.below hb)
    replace Qa := Lib.hid (Qa.out.below hb)
    replace Qb := Lib.hid (Qb.out.below hb)
    replace Qc := Lib.hid (Qc.out.below hb)
    replace Qd := Lib.hid (Qd.out.below hb)
    replace Qe := Lib.hid (Qe.out.below hb)
    replace Qf := Lib.hid (Qf.out.below hb)
    replace Qg := Lib.hid (Qg.out.below hb)
    replace Qj := Lib.hid (Qj.out.below hb)
    clear hb c0 c1 c2 c3 nl B11 N11
    obtain ⟨c0, c1, c2, c3⟩ := N12.out.cells
    have nl := N12.out.lt
    go_wp2_with fail
    refine (nadd Ag Aj kg kj ng nj (pc) (pd) _ Qg.out Qj.out Mg.out Mj.out (by rw [Mg.out]; have := PB.out.2; omega)).mono ?_
    rintro e w13 ⟨Ao, ko, no, rfl, h1, h2, hb, h4, h5, h6⟩
    have Mo := Lib.hid h1; have Qo := Lib.hid h2
    clear h1 h2 h4 h5 h6
    have B13 := Lib.hid (chain B12.out hb)
    have N13 := Lib.hid (N12.out.below hb)
    replace Qa := Lib.hid (Qa.out.below hb)
    replace Qb := Lib.hid (Qb.out.below hb)
    replace Qc := Lib.hid (Qc.out.below hb)
    replace Qd := Lib.hid (Qd.out.below hb)
    replace Qe := Lib.hid (Qe.out.below hb)
    replace Qf := Lib.hid (Qf.out.below hb)
    replace Qg := Lib.hid (Qg.out.below hb)
    replace Qj := Lib.hid (Qj.out.below hb)
    replace Qm := Lib.hid (Qm.out.below hb)
    clear hb c0 c1 c2 c3 nl B12 N12
    obtain ⟨c0, c1, c2, c3⟩ := N13.out.cells
    have nl := N13.out.lt
    go_wp2_with fail
    refine (ssame Am Ao km ko nm no (addR (pa) (pb)) (addR (pc) (pd)) _ Qm.out Qo.out Mm.out Mo.out (by have q := Mm.out; simp only [addR, List.length_zipWith] at q; have := PB.out.1; omega) (SUM.out)).mono ?_
    rintro e w14 ⟨rfl, hb⟩
    have B14 := Lib.hid (chain B13.out hb)
    have N14 := Lib.hid (N13.out.below hb)
    replace Qa := Lib.hid (Qa.out.below hb)
    replace Qb := Lib.hid (Qb.out.below hb)
    replace Qc := Lib.hid (Qc.out.below hb)
    replace Qd := Lib.hid (Qd.out.below hb)
    replace Qe := Lib.hid (Qe.out.below hb)
    replace Qf := Lib.hid (Qf.out.below hb)
    replace Qg := Lib.hid (Qg.out.below hb)
    replace Qj := Lib.hid (Qj.out.below hb)
    replace Qm := Lib.hid (Qm.out.below hb)
    replace Qo := Lib.hid (Qo.out.below hb)
    clear hb c0 c1 c2 c3 nl B13 N13
    obtain ⟨c0, c1, c2, c3⟩ := N14.out.cells
    have nl := N14.out.lt
    go_wp2_with fail
    refine (ssame Aa Ac ka kc na nc (la) (lc) _ Qa.out Qc.out Ma.out Mc.out (by rw [Ma.out]; have := LAC.out.2.1; omega) ((SAC.out (by simp)).1)).mono ?_
    rintro e w15 ⟨rfl, hb⟩
    have B15 := Lib.hid (chain B14.out hb)
    have N15 := Lib.hid (N14.out.below hb)
    replace Qa := Lib.hid (Qa.out.below hb)
    replace Qb := Lib.hid (Qb.out.below hb)
    replace Qc := Lib.hid (Qc.out.below hb)
    replace Qd := Lib.hid (Qd.out.below hb)
    replace Qe := Lib.hid (Qe.out.below hb)
    replace Qf := Lib.hid (Qf.out.below hb)
    replace Qg := Lib.hid (Qg.out.below hb)
    replace Qj := Lib.hid (Qj.out.below hb)
    replace Qm := Lib.hid (Qm.out.below hb)
    replace Qo := Lib.hid (Qo.out.below hb)
    clear hb c0 c1 c2 c3 nl B14 N14
    obtain ⟨c0, c1, c2, c3⟩ := N15.out.cells
    have nl := N15.out.lt
    go_wp2_with fail
    refine (ssame Ab Ad kb kd nb nd (lb) (ld) _ Qb.out Qd.out Mb.out Md.out (by rw [Mb.out]; have := LBD.out.2.1; omega) ((SAC.out (by simp)).2)).mono ?_
    rintro e w16 ⟨rfl, hb⟩
    have B16 := Lib.hid (chain B15.out hb)
    have N16 := Lib.hid (N15.out.below hb)
    replace Qa := Lib.hid (Qa.out.below hb)
    replace Qb := Lib.hid (Qb.out.below hb)
    replace Qc := Lib.hid (Qc.out.below hb)
    replace Qd := Lib.hid (Qd.out.below hb)
    replace Qe := Lib.hid (Qe.out.below hb)
    replace Qf := Lib.hid (Qf.out.below hb)
    replace Qg := Lib.hid (Qg.out.below hb)
    replace Qj := Lib.hid (Qj.out.below hb)
    replace Qm := Lib.hid (Qm.out.below hb)
    replace Qo := Lib.hid (Qo.out.below hb)
    clear hb c0 c1 c2 c3 nl B15 N15
    obtain ⟨c0, c1, c2, c3⟩ := N16.out.cells
    have nl := N16.out.lt
    go_wp2_with fail
    go_ret
    exact ⟨rfl, B16.out⟩
  · skip
    have ZY : Hid (z ≠ y) := zy
    have dz : (uz z == uz y) = false := by simp; exact fun e => zy (uz_inj e)
    clear zy
    go_enter Try.func3, Try.ntmps3
    go_wp2_with fail
    refine (head13_any _).mono ?_
    rintro e w1 ⟨rfl, hb⟩
    have B1 := Lib.hid (chain ((Below.refl w.heap.size w).alloc (Nat.le_refl _) _) hb)
    have N1 := Lib.hid ((NB.new w c h x (.slice A n cA)).below hb)
    clear hb
    obtain ⟨c0, c1, c2, c3⟩ := N1.out.cells
    have nl := N1.out.lt
    go_wp2_with fail
    refine (great13 c h x A cA n _ 4 _ [⟨X, nx, cX⟩, ⟨U, nu, cU⟩, ⟨W, nw, cW⟩, ⟨V, nv, cV⟩] _ false hgr (rg_block (heap_alloc_new _ _) rfl) rfl (by decide)).mono ?_
    rintro e w2 ⟨rfl, hb⟩
    replace hb := ((Below.refl w1.heap.size w1).alloc (Nat.le_refl _) _).trans (hb.mono (by simp))
    have B2 := Lib.hid (chain B1.out hb)
    have N2 := Lib.hid (N1.out.below hb)
    clear hb c0 c1 c2 c3 nl B1 N1
    obtain ⟨c0, c1, c2, c3⟩ := N2.out.cells
    have nl := N2.out.lt
    go_wp2_with fail
    refine (CA.out X cX nx W cW nw _ (HRL.out.below B2.out) (HX.out.below B2.out) LX.out (HW.out.below B2.out) LW.out).mono ?_
    rintro e w3 ⟨Aa, ka, na, rfl, h1, h2, hb, h4, h5⟩
    have Ma := Lib.hid h1; have Qa := Lib.hid h2
    clear h1 h2 h4 h5
    have B3 := Lib.hid (chain B2.out hb)
    have N3 := Lib.hid (N2.out.below hb)
    clear hb c0 c1 c2 c3 nl B2 N2
    obtain ⟨c0, c1, c2, c3⟩ := N3.out.cells
    have nl := N3.out.lt
    go_wp2_with fail
    refine (CB.out U cU nu V cV nv _ (HRL.out.below B3.out) (HU.out.below B3.out) LU.out (HV.out.below B3.out) LV.out).mono ?_
    rintro e w4 ⟨Ab, kb, nb, rfl, h1, h2, hb, h4, h5⟩
    have Mb := Lib.hid h1; have Qb := Lib.hid h2
    clear h1 h2 h4 h5
    have B4 := Lib.hid (chain B3.out hb)
    have N4 := Lib.hid (N3.out.below hb)
    replace Qa := Lib.hid (Qa.out.below hb)
    clear hb c0 c1 c2 c3 nl B3 N3
    obtain ⟨c0, c1, c2, c3⟩ := N4.out.cells
    have nl := N4.out.lt
    go_wp2_with fail
    refine (CC.out X cX nx W cW nw _ (HRL.out.below B4.out) (HX.out.below B4.out) LX.out (HW.out.below B4.out) LW.out).mono ?_
    rintro e w5 ⟨Ac, kc, nc, rfl, h1, h2, hb, h4, h5⟩
    have Mc := Lib.hid h1; have Qc := Lib.hid h2
    clear h1 h2 h4 h5
    have B5 := Lib.hid (chain B4.out hb)
    have N5 := Lib.hid (N4.out.below hb)
    replace Qa := Lib.hid (Qa.out.below hb)
    replace Qb := Lib.hid (Qb.out.below hb)
    clear hb c0 c1 c2 c3 nl B4 N4
    obtain ⟨c0, c1, c2, c3⟩ := N5.out.cells
    have nl := N5.out.lt
    go_wp2_with fail
    refine (CD.out U cU nu V cV nv _ (HRL.out.below B5.out) (HU.out.below B5.out) LU.out (HV.out.below B5.out) LV.out).mono ?_
    rintro e w6 ⟨Ad, kd, nd, rfl, h1, h2, hb, h4, h5⟩
    have Md := Lib.hid h1; have Qd := Lib.hid h2
    clear h1 h2 h4 h5
    have B6 := Lib.hid (chain B5.out hb)
    have N6 := Lib.hid (N5.out.below hb)
    replace Qa := Lib.hid (Qa.out.below hb)
    replace Qb := Lib.hid (Qb.out.below hb)
    replace Qc := Lib.hid (Qc.out.below hb)
    clear hb c0 c1 c2 c3 nl B5 N5
    obtain ⟨c0, c1, c2, c3⟩ := N6.out.cells
    have nl := N6.out.lt
    go_wp2_with fail
    refine (rstages8 c h x A cA n ls _ (HRL.out.below B6.out) LRL.out hn60).mono ?_
    rintro e w7 ⟨AS, kS, nS, rfl, hnS, hRS, hb, hd1, hd2⟩
    have MS := Lib.hid hnS
    clear hnS hRS hd1 hd2
    have B7 := Lib.hid (chain B6.out hb)
    have N7 := Lib.hid (N6.out.below hb)
    replace Qa := Lib.hid (Qa.out.below hb)
    replace Qb := Lib.hid (Qb.out.below hb)
    replace Qc := Lib.hid (Qc.out.below hb)
    replace Qd := Lib.hid (Qd.out.below hb)
    clear hb c0 c1 c2 c3 nl B6 N6
    obtain ⟨c0, c1, c2, c3⟩ := N7.out.cells
    have nl := N7.out.lt
    have dS : nS ≤ kk → False := by rw [MS.out]; exact Nat.not_le.2 KS.out
    have dS2 : decide (nS ≤ kk) = false := decide_eq_false dS
    clear dS
    go_wp2_with fail
    refine (CE.out Aa ka na Ab kb nb _ (HRL.out.below B7.out) Qa.out Ma.out Qb.out Mb.out).mono ?_
    rintro e w8 ⟨Ae, ke, ne, rfl, h1, h2, hb, h4, h5⟩
    have Me := Lib.hid h1; have Qe := Lib.hid h2
    clear h1 h2 h4 h5
    have B8 := Lib.hid (chain B7.out hb)
    have N8 := Lib.hid (N7.out.below hb)
    replace Qa := Lib.hid (Qa.out.below hb)
    replace Qb := Lib.hid (Qb.out.below hb)
    replace Qc := Lib.hid (Qc.out.below hb)
    replace Qd := Lib.hid (Qd.out.below hb)
    clear hb c0 c1 c2 c3 nl B7 N7
    obtain ⟨c0, c1, c2, c3⟩ := N8.out.cells
    have nl := N8.out.lt
    go_wp2_with fail
    refine (CF.out Ab kb nb Aa ka na _ (HRL.out.below B8.out) Qb.out Mb.out Qa.out Ma.out).mono ?_
    rintro e w9 ⟨Af, kf, nf, rfl, h1, h2, hb, h4, h5⟩
    have Mf := Lib.hid h1; have Qf := Lib.hid h2
    clear h1 h2 h4 h5
    have B9 := Lib.hid (chain B8.out hb)
    have N9 := Lib.hid (N8.out.below hb)
    replace Qa := Lib.hid (Qa.out.below hb)
    replace Qb := Lib.hid (Qb.out.below hb)
    replace Qc := Lib.hid (Qc.out.below hb)
    replace Qd := Lib.hid (Qd.out.below hb)
    replace Qe := Lib.hid (Qe.out.below hb)
    clear hb c0 c1 c2 c3 nl B8 N8
    obtain ⟨c0, c1, c2, c3⟩ := N9.out.cells
    have nl := N9.out.lt
    go_wp2_with fail
    refine (CG.out Ac kc nc Ad kd nd _ (HRL.out.below B9.out) Qc.out Mc.out Qd.out Md.out).mono ?_
    rintro e w10 ⟨Ag, kg, ng, rfl, h1, h2, hb, h4, h5⟩
    have Mg := Lib.hid h1; have Qg := Lib.hid h2
    clear h1 h2 h4 h5
    have B10 := Lib.hid (chain B9.out hb)
    have N10 := Lib.hid (N9.out.below hb)
    replace Qa := Lib.hid (Qa.out.below hb)
    replace Qb := Lib.hid (Qb.out.below hb)
    replace Qc := Lib.hid (Qc.out.below hb)
    replace Qd := Lib.hid (Qd.out.below hb)
    replace Qe := Lib.hid (Qe.out.below hb)
    replace Qf := Lib.hid (Qf.out.below hb)
    clear hb c0 c1 c2 c3 nl B9 N9
    obtain ⟨c0, c1, c2, c3⟩ := N10.out.cells
    have nl := N10.out.lt
    go_wp2_with fail
    refine (CH.out Ad kd nd Ac kc nc _ (HRL.out.below B10.out) Qd.out Md.out Qc.out Mc.out).mono ?_
    rintro e w11 ⟨Aj, kj, nj, rfl, h1, h2, hb, h4, h5⟩
    have Mj := Lib.hid h1; have Qj := Lib.hid h2
    clear h1 h2 h4 h5
    have B11 := Lib.hid (chain B10.out hb)
    have N11 := Lib.hid (N10.out.below hb)
    replace Qa := Lib.hid (Qa.out.below hb)
    replace Qb := Lib.hid (Qb.out.below hb)
    replace Qc := Lib.hid (Qc.out.below hb)
    replace Qd := Lib.hid (Qd.out.below hb)
    replace Qe := Lib.hid (Qe.out.below hb)
    replace Qf := Lib.hid (Qf.out.below hb)
    replace Qg := Lib.hid (Qg.out.below hb)
    clear hb c0 c1 c2 c3 nl B10 N10
    obtain ⟨c0, c1, c2, c3⟩ := N11.out.cells
    have nl := N11.out.lt
    go_wp2_with fail
    refine (nadd Ae Af ke kf ne nf (pa) (pb) _ Qe.out Qf.out Me.out Mf.out (by rw [Me.out]; have := PB.out.1; omega)).mono ?_
    rintro e w12 ⟨Am, km, nm, rfl, h1, h2, hb, h4, h5, h6⟩
    have Mm := Lib.hid h1; have Qm := Lib.hid h2
    clear h1 h2 h4 h5 h6
    have B12 := Lib.hid (chain B11.out hb)
    have N12 := Lib.hid (N11.out.below hb)
    replace Qa := Lib.hid (Qa.out.below hb)
    replace Qb := Lib.hid (Qb.out.below hb)
    replace Qc := Lib.hid (Qc.out.below hb)
    replace Qd := Lib.hid (Qd.out.below hb)
    replace Qe := Lib.hid (Qe.out.below hb)
    replace Qf := Lib.hid (Qf.out.below hb)
    replace Qg := Lib.hid (Qg.out.below hb)
    replace Qj := Lib.hid (Qj.out.below hb)
    clear hb c0 c1 c2 c3 nl B11 N11
    obtain ⟨c0, c1, c2, c3⟩ := N12.out.cells
    have nl := N12.out.lt
    go_wp2_with fail
    refine (nadd Ag Aj kg kj ng nj (pc) (pd) _ Qg.out Qj.out Mg.out Mj.out (by rw [Mg.out]; have := PB.out.2; omega)).mono ?_
    rintro e w13 ⟨Ao, ko, no, rfl, h1, h2, hb, h4, h5, h6⟩
    have Mo := Lib.hid h1; have Qo := Lib.hid h2
    clear h1 h2 h4 h5 h6
    have B13 := Lib.hid (chain B12.out hb)
    have N13 := Lib.hid (N12.out.below hb)
    replace Qa := Lib.hid (Qa.out.below hb)
    replace Qb := Lib.hid (Qb.out.below hb)
    replace Qc := Lib.hid (Qc.out.below hb)
    replace Qd := Lib.hid (Qd.out.below hb)
    replace Qe := Lib.hid (Qe.out.below hb)
    replace Qf := Lib.hid (Qf.out.below hb)
    replace Qg := Lib.hid (Qg.out.below hb)
    replace Qj := Lib.hid (Qj.out.below hb)
    replace Qm := Lib.hid (Qm.out.below hb)
    clear hb c0 c1 c2 c3 nl B12 N12
    obtain ⟨c0, c1, c2, c3⟩ := N13.out.cells
    have nl := N13.out.lt
    go_wp2_with fail
    refine (ssame Am Ao km ko nm no (addR (pa) (pb)) (addR (pc) (pd)) _ Qm.out Qo.out Mm.out Mo.out (by have q := Mm.out; simp only [addR, List.length_zipWith] at q; have := PB.out.1; omega) (SUM.out)).mono ?_
    rintro e w14 ⟨rfl, hb⟩
    have B14 := Lib.hid (chain B13.out hb)
    have N14 := Lib.hid (N13.out.below hb)
    replace Qa := Lib.hid (Qa.out.below hb)
    replace Qb := Lib.hid (Qb.out.below hb)
    replace Qc := Lib.hid (Qc.out.below hb)
    replace Qd := Lib.hid (Qd.out.below hb)
    replace Qe := Lib.hid (Qe.out.below hb)
    replace Qf := Lib.hid (Qf.out.below hb)
    replace Qg := Lib.hid (Qg.out.below hb)
    replace Qj := Lib.hid (Qj.out.below hb)
    replace Qm := Lib.hid (Qm.out.below hb)
    replace Qo := Lib.hid (Qo.out.below hb)
    clear hb c0 c1 c2 c3 nl B13 N13
    obtain ⟨c0, c1, c2, c3⟩ := N14.out.cells
    have nl := N14.out.lt
    go_wp2_with fail
    refine (sdiff Aa Ac ka kc na nc (la) (lc) _ Qa.out Qc.out Ma.out Mc.out LAC.out.1 (by rw [Ma.out]; have := LAC.out.2.1; omega) (LAC.out.2.2 ZY.out)).mono ?_
    rintro e w15 ⟨rfl, hb⟩
    have B15 := Lib.hid (chain B14.out hb)
    have N15 := Lib.hid (N14.out.below hb)
    replace Qa := Lib.hid (Qa.out.below hb)
    replace Qb := Lib.hid (Qb.out.below hb)
    replace Qc := Lib.hid (Qc.out.below hb)
    replace Qd := Lib.hid (Qd.out.below hb)
    replace Qe := Lib.hid (Qe.out.below hb)
    replace Qf := Lib.hid (Qf.out.below hb)
    replace Qg := Lib.hid (Qg.out.below hb)
    replace Qj := Lib.hid (Qj.out.below hb)
    replace Qm := Lib.hid (Qm.out.below hb)
    replace Qo := Lib.hid (Qo.out.below hb)
    clear hb c0 c1 c2 c3 nl B14 N14
    obtain ⟨c0, c1, c2, c3⟩ := N15.out.cells
    have nl := N15.out.lt
    go_wp2_with fail
    refine (sdiff Ab Ad kb kd nb nd (lb) (ld) _ Qb.out Qd.out Mb.out Md.out LBD.out.1 (by rw [Mb.out]; have := LBD.out.2.1; omega) (LBD.out.2.2 ZY.out)).mono ?_
    rintro e w16 ⟨rfl, hb⟩
    have B16 := Lib.hid (chain B15.out hb)
    have N16 := Lib.hid (N15.out.below hb)
    replace Qa := Lib.hid (Qa.out.below hb)
    replace Qb := Lib.hid (Qb.out.below hb)
    replace Qc := Lib.hid (Qc.out.below hb)
    replace Qd := Lib.hid (Qd.out.below hb)
    replace Qe := Lib.hid (Qe.out.below hb)
    replace Qf := Lib.hid (Qf.out.below hb)
    replace Qg := Lib.hid (Qg.out.below hb)
    replace Qj := Lib.hid (Qj.out.below hb)
    replace Qm := Lib.hid (Qm.out.below hb)
    replace Qo := Lib.hid (Qo.out.below hb)
    clear hb c0 c1 c2 c3 nl B15 N15
    obtain ⟨c0, c1, c2, c3⟩ := N16.out.cells
    have nl := N16.out.lt
    go_wp2_with fail
    go_ret
    exact ⟨rfl, B16.out⟩

end Go.Proofs.Ytklgjhldebdegaa

namespace Go.Proofs.Ytklgjhldebdegaa
open Go.ChangeShapes Go.WideShapes Go.ChangeAt Go.RowKit Go.Deep

theorem Try.own : ownKnob Try.prog.godebug = none := by kernel_rfl
theorem Try.laidOut : laidOutB Try.prog = true := by kernel_rfl
theorem Try.cells26 : Try.prog.cellsOf 26 = 4 := by kernel_rfl
theorem Try.cells23 : Try.prog.cellsOf 23 = 3 := by kernel_rfl
theorem Try.cells24 : Try.prog.cellsOf 24 = 1 := by kernel_rfl
theorem Try.cells39 : Try.prog.cellsOf 39 = 4 := by kernel_rfl
theorem Try.cells3 : Try.prog.cellsOf 3 = 1 := by kernel_rfl
theorem two {α : Type} {l : List α} (h : l.length = 2) : ∃ a b, l = [a, b] := by
  match l, h with
  | [a, b], _ => exact ⟨a, b, rfl⟩
theorem three {α : Type} {l : List α} (h : l.length = 3) : ∃ a b c, l = [a, b, c] := by
  match l, h with
  | [a, b, c], _ => exact ⟨a, b, c, rfl⟩
theorem four {α : Type} {l : List α} (h : l.length = 4) : ∃ a b c d, l = [a, b, c, d] := by
  match l, h with
  | [a, b, c, d], _ => exact ⟨a, b, c, d, rfl⟩
theorem ints_open {H : Type} {enc : TypeId × Value → H} {W : World} {fuel : Nat} {v : Value} {y : DataW H × List MemPlace} (h : DataW.trod enc Try.prog W 0 (fun _ => true) true fuel 3 [v] = some y) : ∃ n, v = .int .i64 n := by
  obtain ⟨n, hc, _⟩ := DataW.trod_int Try.underlying3 h
  exact ⟨n, by simpa using hc⟩
set_option maxRecDepth 100000 in
theorem shape_open {H : Type} {enc : TypeId × Value → H} {W : World} {fuel : Nat} {a b c : Value} {y : DataW H × List MemPlace} (h : DataW.trod enc Try.prog W 0 (fun _ => true) true fuel 23 [a, b, c] = some y) :
    ∃ x y z, a = .int .i64 x ∧ b = .int .i64 y ∧ c = .int .i64 z := by
  obtain ⟨xs, n, _, _, _, hlen, hg⟩ := DataW.trod_struct Try.underlying23 h
  have g0 := hg 0 _ rfl
  have g1 := hg 1 _ rfl
  have g2 := hg 2 _ rfl
  obtain ⟨y0, y1, y2, rfl⟩ := three hlen
  simp [Try.cells3] at g0 g1 g2
  obtain ⟨x, rfl⟩ := ints_open g0
  obtain ⟨y, rfl⟩ := ints_open g1
  obtain ⟨z, rfl⟩ := ints_open g2
  exact ⟨x, y, z, rfl, rfl, rfl⟩
set_option maxRecDepth 100000 in
theorem lay_open {H : Type} {enc : TypeId × Value → H} {W : World} {fuel : Nat} {cs : List Value} {y : DataW H × List MemPlace} (h : DataW.trod enc Try.prog W 0 (fun _ => true) true fuel 39 cs = some y) :
    ∃ l : Ly, cs = [.int .i64 l.k, .int .i64 l.o, .int .i64 l.s, .int .i64 l.t] := by
  obtain ⟨xs, n, _, _, hcl, hlen, hg⟩ := DataW.trod_struct Try.underlying39 h
  rw [Try.cells39] at hcl
  have g0 := hg 0 _ rfl
  have g1 := hg 1 _ rfl
  have g2 := hg 2 _ rfl
  have g3 := hg 3 _ rfl
  obtain ⟨y0, y1, y2, y3, rfl⟩ := four hlen
  obtain ⟨a, b, c, d, rfl⟩ := four hcl
  simp [Try.cells3] at g0 g1 g2 g3
  obtain ⟨x, rfl⟩ := ints_open g0
  obtain ⟨y, rfl⟩ := ints_open g1
  obtain ⟨z, rfl⟩ := ints_open g2
  obtain ⟨u, rfl⟩ := ints_open g3
  exact ⟨⟨x, y, z, u⟩, rfl⟩
theorem lays_open {H : Type} {enc : TypeId × Value → H} {W : World} {fuel : Nat} {v : Value} {y : DataW H × List MemPlace} (h : DataW.trod enc Try.prog W 0 (fun _ => true) true fuel 24 [v] = some y) :
    ∃ (A : Option Addr) (n cap : Nat) (ls : List Ly), v = .slice A n cap ∧ n = ls.length ∧ Rl W A ls ∧ n ≤ cap ∧ cap ≤ maxLen := by
  rcases Deep.open_slice Try.underlying24 h with ⟨hcs, _⟩ | ⟨a, len, cap, m, n, D, Pl, hcs, _, hl, hmx, hm, _, hc⟩
  · simp at hcs
    exact ⟨none, 0, 0, [], hcs, rfl, Rl.nil _ _, Nat.le_refl _, Nat.zero_le _⟩
  · simp at hcs
    simp at hm
    rw [Try.cells39] at hc
    have key : ∀ i, i < len → ∃ l : Ly, W.cells? 0 (a.add (i * 4)) 4 = some [.int .i64 l.k, .int .i64 l.o, .int .i64 l.s, .int .i64 l.t] := fun i hi => by
      obtain ⟨cs', h1, h2⟩ := hc i (by omega)
      obtain ⟨l, rfl⟩ := lay_open h2
      exact ⟨l, h1⟩
    obtain ⟨L, hL⟩ : ∃ L : Nat → Ly, ∀ i, i < len → W.cells? 0 (a.add (i * 4)) 4 = some [.int .i64 (L i).k, .int .i64 (L i).o, .int .i64 (L i).s, .int .i64 (L i).t] :=
      ⟨fun i => if hi : i < len then Classical.choose (key i hi) else Ly.z, fun i hi => by simp only [dif_pos hi]; exact Classical.choose_spec (key i hi)⟩
    refine ⟨some a, len, cap, (List.range len).map L, hcs, by simp, fun h0 => ?_, hl, hmx⟩
    simp only [List.length_map, List.length_range] at h0
    obtain ⟨b, off, spot⟩ := a
    have hat : ∀ i, i < len → ∀ j, j < 4 → W.cell? (((⟨b, off, spot⟩ : Addr).add (i * 4)).add j) = [Value.int .i64 (L i).k, .int .i64 (L i).o, .int .i64 (L i).s, .int .i64 (L i).t][j]? := fun i hi j hj => by
      obtain ⟨_, _, hh⟩ := World.cells?_some (hL i hi)
      exact hh j hj
    have hspot : spot = none := by
      have := hat 0 h0 0 (by omega)
      simpa [Addr.add] using World.cell?_spot (this : _ = some _)
    subst hspot
    have hcell : ∀ i, i < len → ∀ j, j < 4 → W.cell? ⟨b, off + i * 4 + j, none⟩ = [Value.int .i64 (L i).k, .int .i64 (L i).o, .int .i64 (L i).s, .int .i64 (L i).t][j]? := fun i hi j hj => by
      rw [← hat i hi j hj, Go.WideShapes.add_plain, Go.WideShapes.add_plain]
    refine ⟨b, off, rfl, World.block_lt_of_cell? W _ (hcell 0 h0 0 (by omega)), fun j hj => ?_⟩
    simp only [List.length_map, List.length_range] at hj
    have e : ((List.range len).map L).getD j Ly.z = L j := by simp [List.getD_eq_getElem?_getD, hj]
    rw [e]
    exact ⟨hcell j hj 0 (by omega), hcell j hj 1 (by omega), hcell j hj 2 (by omega), hcell j hj 3 (by omega)⟩
set_option maxRecDepth 100000 in
theorem net_open {H : Type} {enc : TypeId × Value → H} {W : World} {base : Nat} {v : Value} {d : DataW H} {p : List MemPlace} (hv : Value.okWide Try.prog W .any base 26 v)
    (h : DataW.Trod enc Try.prog W 0 (fun _ => true) true 26 v d p) : ∃ (c h x : Int) (A : Option Addr) (n cap : Nat) (ls : List Ly), v = .agg #[.int .i64 c, .int .i64 h, .int .i64 x, .slice A n cap] ∧ n = ls.length ∧ Rl W A ls ∧ n ≤ cap ∧ cap ≤ maxLen := by
  obtain ⟨cs, rfl, hsz⟩ := okWide_struct Try.underlying26 hv
  obtain ⟨l⟩ := cs
  have hl4 : l.length = 4 := hsz.trans Try.cells26
  obtain ⟨v0, v1, v2, v3, rfl⟩ := four hl4
  obtain ⟨fuel, hf⟩ := h
  obtain ⟨xs, n, _, _, _, hlen, hg⟩ := DataW.trod_struct Try.underlying26 hf
  have g0 := hg 0 _ rfl
  have g1 := hg 1 _ rfl
  obtain ⟨y0, y1, rfl⟩ := two hlen
  simp [Value.cells, Try.cells23, Try.cells24] at g0 g1
  obtain ⟨c, h, x, rfl, rfl, rfl⟩ := shape_open g0
  obtain ⟨A, m, cap, ls, rfl, hm, hR, hl, hx⟩ := lays_open g1
  exact ⟨c, h, x, A, m, cap, ls, rfl, hm, hR, hl, hx⟩
end Go.Proofs.Ytklgjhldebdegaa

namespace Go.Proofs.Ytklgjhldebdegaa
open Go.ChangeShapes Go.WideShapes Go.ChangeAt Go.RowKit Go.Deep

theorem Try.cells27 : Try.prog.cellsOf 27 = 1 := by kernel_rfl
theorem u64_of_wf {n : Int} (h : (Lit.int .u64 n).wf = true) : ∃ u : UInt64, n = uz u := by
  have h2 := bounds_u64 h
  exact uz_of h2.1 (by omega)
theorem ru_of_cells {w : World} {x : Addr} {len cap : Nat} {zs : List Int} (hl : len ≤ cap) (hz : zs.length = cap)
    (hcell : ∀ i, i < zs.length → w.cell? (x.add i) = some (.int .u64 (zs.getD i 0))) (hwz : ∀ n ∈ zs, (Lit.int .u64 n).wf = true) :
    ∃ us : List UInt64, len = us.length ∧ Rg ucells w (some x) us ∧ len ≤ cap := by
  refine ⟨(zs.take len).map (fun n => UInt64.ofNat n.toNat), by simp; omega, fun h0 => ?_, hl⟩
  simp only [List.length_map, List.length_take] at h0
  obtain ⟨b, off, rfl, hc⟩ := ints_at hcell (by omega)
  refine ⟨b, off, rfl, World.block_lt_of_cell? w _ (hc 0 (by omega)), fun j u hu => ?_⟩
  have hj := (List.getElem?_eq_some_iff.1 hu).1
  rw [flat_len ucells_len, Nat.mul_one] at hj
  have hj2 := hj
  simp only [List.length_map, List.length_take] at hj2
  have g1 := flat_get ucells_len _ j 0 _ (List.getElem?_eq_getElem hj) (by omega)
  rw [Nat.mul_one, Nat.add_zero, hu] at g1
  rw [hc j (by omega), g1]
  have hjz : j < zs.length := by omega
  have hn := bounds_u64 (hwz _ (List.getElem_mem hjz))
  simp only [ucells, List.getElem?_cons_zero, Option.some.injEq, Value.int.injEq, true_and, List.getElem_map, List.getElem_take, List.getD_eq_getElem?_getD, List.getElem?_eq_getElem hjz, Option.getD_some]
  unfold uz
  rw [UInt64.toNat_ofNat']
  omega
theorem ru_open {H : Type} {enc : TypeId × Value → H} {W : World} {a : Option Addr} {len cap : Nat} {d : DataW H} {p : List MemPlace}
    (h : DataW.Trod enc Try.prog W 0 (fun _ => true) true 28 (.slice a len cap) d p) : ∃ us : List UInt64, len = us.length ∧ Rg ucells W a us ∧ len ≤ cap := by
  obtain ⟨fuel, hf⟩ := h
  rcases open_ints Try.underlying28 Try.underlying27 Try.cells27 hf with ⟨hcs, _⟩ | ⟨x, l, c, zs, hcs, _, hl, hm, hz, _, hcell, hwz⟩
  · simp [Value.cells] at hcs
    obtain ⟨rfl, rfl, rfl⟩ := hcs
    exact ⟨[], rfl, Rg.nil _ _ _, Nat.le_refl _⟩
  · simp [Value.cells] at hcs
    obtain ⟨rfl, rfl, rfl⟩ := hcs
    exact ru_of_cells hl (by simpa using hz) hcell hwz

end Go.Proofs.Ytklgjhldebdegaa
