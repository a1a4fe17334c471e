/-
  EvalLast, of any network, any party, any number of 64 bits and any three rows of numbers, returns true, and each argument reads afterwards as it read before; no condition.
-/
import Derived.Test.YtklgjhldebdegaaGreatB17
namespace Go.Proofs.YtklgjhldebdegaaGreat
open Go.RowKit

set_option maxHeartbeats 8000000 in
set_option maxRecDepth 100000 in
theorem law_elast (c h x : Int) (A : Option Addr) (cA n : Nat) (ls : List Ly) (a : Int) (z : UInt64) (X : Option Addr) (cX nx : Nat) (xs : List UInt64) (U : Option Addr) (cU nu : Nat) (us : List UInt64) (W : Option Addr) (cW nw : Nat) (ws : List UInt64) (w : World) (hx : Rl w A ls) (ln : n = ls.length) (hX : Rg ucells w X xs) (lX : nx = xs.length) (hU : Rg ucells w U us) (lU : nu = us.length) (hW : Rg ucells w W ws) (lW : nw = ws.length) :
    Calls Tryz.prog 8 #[.agg #[.int .i64 c, .int .i64 h, .int .i64 x, .slice A n cA], .int .i64 a, .int .u64 (uz z), .slice X nx cX, .slice U nu cU, .slice W nw cW] w fun e w' => e = .returned (.bool true) ∧ Below w.heap.size w w' := by
  have HRL := Lib.hid hx; have LRL := Lib.hid ln
  have HX := Lib.hid hX; have LX := Lib.hid lX
  have HU := Lib.hid hU; have LU := Lib.hid lU
  have HW := Lib.hid hW; have LW := Lib.hid lW
  clear hx ln hX lX hU lU hW lW
  obtain ⟨er, her⟩ : ∃ er, er = errN ⟨c, h, x, ls⟩ := ⟨_, rfl⟩
  have HER := Lib.hid her
  obtain ⟨tw, htw⟩ : ∃ tw, tw = totW (knN ⟨c, h, x, ls⟩) := ⟨_, rfl⟩
  have HTW := Lib.hid htw
  clear her htw
  by_cases hg : 60 < n ∨ 3000 < nx ∨ 3000 < nu ∨ 3000 < nw
  · have hgr : (anyB [⟨X, nx, cX⟩, ⟨U, nu, cU⟩, ⟨W, nw, cW⟩] || decide (60 < (n : Int))) = true := by unfold anyB; simp; omega
    go_enter Tryz.func8, Tryz.ntmps8
    go_wp2_with fail
    refine (head13_any _).mono ?_
    rintro e w1 ⟨rfl, hb⟩
    have B1 := Lib.hid (chain ((Below.refl w.heap.size w).alloc (Nat.le_refl _) _) hb)
    have N1 := Lib.hid ((NB.new w c h x (.slice A n cA)).below hb)
    clear hb
    obtain ⟨c0, c1, c2, c3⟩ := N1.out.cells
    have nl := N1.out.lt
    go_wp2_with fail
    refine (rall_any c h x A cA n ls _ (HRL.out.below B1.out) LRL.out).mono ?_
    rintro e w2 ⟨rfl, hb⟩
    rw [← HTW.out]
    have B2 := Lib.hid (chain B1.out hb)
    have N2 := Lib.hid (N1.out.below hb)
    clear hb c0 c1 c2 c3 nl B1 N1
    obtain ⟨c0, c1, c2, c3⟩ := N2.out.cells
    have nl := N2.out.lt
    go_wp2_with fail
    refine (great13 c h x A cA n _ 3 _ [⟨X, nx, cX⟩, ⟨U, nu, cU⟩, ⟨W, nw, cW⟩] _ true hgr (rg_block (heap_alloc_new _ _) rfl) rfl (by decide)).mono ?_
    rintro e w3 ⟨rfl, hb⟩
    replace hb := ((Below.refl w2.heap.size w2).alloc (Nat.le_refl _) _).trans (hb.mono (by simp))
    have B3 := Lib.hid (chain B2.out hb)
    have N3 := Lib.hid (N2.out.below hb)
    clear hb c0 c1 c2 c3 nl B2 N2
    obtain ⟨c0, c1, c2, c3⟩ := N3.out.cells
    have nl := N3.out.lt
    go_wp2_with fail
    go_ret
    exact ⟨rfl, B3.out⟩
  have hgr : (anyB [⟨X, nx, cX⟩, ⟨U, nu, cU⟩, ⟨W, nw, cW⟩] || decide (60 < (n : Int))) = false := by unfold anyB; simp; omega
  have hn60 : n ≤ 60 := by omega
  have hn1 : n ≤ 1000 := by omega
  have bX : nx ≤ 3000 := by omega
  have bU : nu ≤ 3000 := by omega
  have bW : nw ≤ 3000 := by omega
  clear hg
  by_cases h0 : ¬ er = 0
  · skip
    have b0 : (er == 0) = false := by simpa using h0
    clear h0
    go_enter Tryz.func8, Tryz.ntmps8
    go_wp2_with fail
    refine (head13_any _).mono ?_
    rintro e w1 ⟨rfl, hb⟩
    have B1 := Lib.hid (chain ((Below.refl w.heap.size w).alloc (Nat.le_refl _) _) hb)
    have N1 := Lib.hid ((NB.new w c h x (.slice A n cA)).below hb)
    clear hb
    obtain ⟨c0, c1, c2, c3⟩ := N1.out.cells
    have nl := N1.out.lt
    go_wp2_with fail
    refine (rall_any c h x A cA n ls _ (HRL.out.below B1.out) LRL.out).mono ?_
    rintro e w2 ⟨rfl, hb⟩
    rw [← HTW.out]
    have B2 := Lib.hid (chain B1.out hb)
    have N2 := Lib.hid (N1.out.below hb)
    clear hb c0 c1 c2 c3 nl B1 N1
    obtain ⟨c0, c1, c2, c3⟩ := N2.out.cells
    have nl := N2.out.lt
    go_wp2_with fail
    refine (great13 c h x A cA n _ 3 _ [⟨X, nx, cX⟩, ⟨U, nu, cU⟩, ⟨W, nw, cW⟩] _ false hgr (rg_block (heap_alloc_new _ _) rfl) rfl (by decide)).mono ?_
    rintro e w3 ⟨rfl, hb⟩
    replace hb := ((Below.refl w2.heap.size w2).alloc (Nat.le_refl _) _).trans (hb.mono (by simp))
    have B3 := Lib.hid (chain B2.out hb)
    have N3 := Lib.hid (N2.out.below hb)
    clear hb c0 c1 c2 c3 nl B2 N2
    obtain ⟨c0, c1, c2, c3⟩ := N3.out.cells
    have nl := N3.out.lt
    go_wp2_with fail
    refine (rright_of c h x A cA n ls _ (HRL.out.below B3.out) LRL.out hn1).mono ?_
    rintro e w4 ⟨rfl, hb⟩
    rw [← HER.out]
    have B4 := Lib.hid (chain B3.out hb)
    have N4 := Lib.hid (N3.out.below hb)
    clear hb c0 c1 c2 c3 nl B3 N3
    obtain ⟨c0, c1, c2, c3⟩ := N4.out.cells
    have nl := N4.out.lt
    go_wp2_with fail
    go_ret
    exact ⟨rfl, B4.out⟩
  have h0 : er = 0 := by omega
  have b0 : (er == 0) = true := by rw [h0]; rfl
  have he : errN ⟨c, h, x, ls⟩ = 0 := HER.out.symm.trans h0
  clear h0
  obtain ⟨S0, hS0⟩ : ∃ S0, S0 = (stagesN ⟨c, h, x, ls⟩).length := ⟨_, rfl⟩
  obtain ⟨S1, hS1⟩ : ∃ S1, S1 = S0 + 1 := ⟨_, rfl⟩
  have sb : S0 ≤ 60 := by
    rw [hS0, show stagesN ⟨c, h, x, ls⟩ = stK ls ls.length from if_pos he]
    have := stK_len ls ls.length
    have := LRL.out
    omega
  have v1 : IntKind.i64.wrap ((S0 : Int) + 1) = (S1 : Int) := next_i64 hS1 (Nat.lt_succ_self S0) (by omega)
  have v2 : wrap64 ((S0 : Int) + 1) = (S1 : Int) := next_wrap hS1 (Nat.lt_succ_self S0) (by omega)
  have V1 := Lib.hid v1; have V2 := Lib.hid v2; have HS0 := Lib.hid hS0
  clear v1 v2
  obtain ⟨kn, hkn⟩ : ∃ kn, kn = inN ⟨c, h, x, ls⟩ (S0 : Int) := ⟨_, rfl⟩
  have ke : kn = (endS ⟨c, h, x⟩ ls).n := by rw [hkn, hS0]; exact in_last he
  have le : (lineN ⟨c, h, x, ls⟩ (S0 : Int)).2 = kn := by rw [ke, hS0]; exact line_last he
  have kb : kn ≤ 128 := by rw [ke]; exact (size_bd _).2
  have si : isSt ⟨c, h, x, ls⟩ (S0 : Int) = true := isSt_yes ⟨he, by omega, by omega⟩
  have CIN : Hid (∀ w', Rl w' A ls → Calls Tryz.prog 26 #[.agg #[.int .i64 c, .int .i64 h, .int .i64 x, .slice A n cA], .int .i64 (S0 : Int)] w' fun e w'' => e = .returned (.int .i64 kn) ∧ Below w'.heap.size w' w'') := fun w' z0 => by rw [hkn]; exact rin13 c h x A cA n ls (S0 : Int) w' z0 LRL.out hn60
  obtain ⟨la, hla⟩ : ∃ q, q = lineU ⟨c, h, x, ls⟩ a z (S0 : Int) xs ws := ⟨_, rfl⟩
  obtain ⟨ba, hba⟩ : ∃ q, q = okLn ⟨c, h, x, ls⟩ (S0 : Int) xs ws := ⟨_, rfl⟩
  have Hla := Lib.hid hla; have Hba := Lib.hid hba
  obtain ⟨lb, hlb⟩ : ∃ q, q = nextU ⟨c, h, x, ls⟩ a z (S0 : Int) xs us := ⟨_, rfl⟩
  obtain ⟨bb, hbb⟩ : ∃ q, q = okNx ⟨c, h, x, ls⟩ (S0 : Int) xs us := ⟨_, rfl⟩
  have Hlb := Lib.hid hlb; have Hbb := Lib.hid hbb
  obtain ⟨lc, hlc⟩ : ∃ q, q = lineU ⟨c, h, x, ls⟩ a z (S1 : Int) xs ws := ⟨_, rfl⟩
  obtain ⟨bc, hbc⟩ : ∃ q, q = okLn ⟨c, h, x, ls⟩ (S1 : Int) xs ws := ⟨_, rfl⟩
  have Hlc := Lib.hid hlc; have Hbc := Lib.hid hbc
  obtain ⟨ld, hld⟩ : ∃ q, q = nextU ⟨c, h, x, ls⟩ a z (S1 : Int) xs us := ⟨_, rfl⟩
  obtain ⟨bd, hbd⟩ : ∃ q, q = okNx ⟨c, h, x, ls⟩ (S1 : Int) xs us := ⟨_, rfl⟩
  have Hld := Lib.hid hld; have Hbd := Lib.hid hbd
  obtain ⟨le_, hle_⟩ : ∃ q, q = lineU ⟨c, h, x, ls⟩ a z (-1) xs ws := ⟨_, rfl⟩
  obtain ⟨be, hbe⟩ : ∃ q, q = okLn ⟨c, h, x, ls⟩ (-1) xs ws := ⟨_, rfl⟩
  have Hle_ := Lib.hid hle_; have Hbe := Lib.hid hbe
  have CA : Hid (∀ (X : Option Addr) (cX nx : Nat) (Y : Option Addr) (cY ny : Nat) (w' : World), Rl w' A ls → Rg ucells w' X xs → nx = (xs).length → Rg ucells w' Y ws → ny = (ws).length → Calls Tryz.prog 13 #[.agg #[.int .i64 c, .int .i64 h, .int .i64 x, .slice A n cA], .int .i64 a, .int .u64 (uz z), .int .i64 (S0 : Int), .slice X nx cX, .slice Y ny cY] w' (PairTo la ba w')) := fun X cX nx Y cY ny w' z0 z1 z2 z3 z4 => by rw [hla, hba]; exact line13 c h x A X Y cA n cX nx cY ny ls xs ws a z (S0 : Int) w' z0 LRL.out hn60 z1 z2 z3 z4
  have CB : Hid (∀ (X : Option Addr) (cX nx : Nat) (Y : Option Addr) (cY ny : Nat) (w' : World), Rl w' A ls → Rg ucells w' X xs → nx = (xs).length → Rg ucells w' Y us → ny = (us).length → Calls Tryz.prog 15 #[.agg #[.int .i64 c, .int .i64 h, .int .i64 x, .slice A n cA], .int .i64 a, .int .u64 (uz z), .int .i64 (S0 : Int), .slice X nx cX, .slice Y ny cY] w' (PairTo lb bb w')) := fun X cX nx Y cY ny w' z0 z1 z2 z3 z4 => by rw [hlb, hbb]; exact next13 c h x A X Y cA n cX nx cY ny ls xs us a z (S0 : Int) w' z0 LRL.out hn60 z1 z2 z3 z4
  have CC : Hid (∀ (X : Option Addr) (cX nx : Nat) (Y : Option Addr) (cY ny : Nat) (w' : World), Rl w' A ls → Rg ucells w' X xs → nx = (xs).length → Rg ucells w' Y ws → ny = (ws).length → Calls Tryz.prog 13 #[.agg #[.int .i64 c, .int .i64 h, .int .i64 x, .slice A n cA], .int .i64 a, .int .u64 (uz z), .int .i64 (S1 : Int), .slice X nx cX, .slice Y ny cY] w' (PairTo lc bc w')) := fun X cX nx Y cY ny w' z0 z1 z2 z3 z4 => by rw [hlc, hbc]; exact line13 c h x A X Y cA n cX nx cY ny ls xs ws a z (S1 : Int) w' z0 LRL.out hn60 z1 z2 z3 z4
  have CD : Hid (∀ (X : Option Addr) (cX nx : Nat) (Y : Option Addr) (cY ny : Nat) (w' : World), Rl w' A ls → Rg ucells w' X xs → nx = (xs).length → Rg ucells w' Y us → ny = (us).length → Calls Tryz.prog 15 #[.agg #[.int .i64 c, .int .i64 h, .int .i64 x, .slice A n cA], .int .i64 a, .int .u64 (uz z), .int .i64 (S1 : Int), .slice X nx cX, .slice Y ny cY] w' (PairTo ld bd w')) := fun X cX nx Y cY ny w' z0 z1 z2 z3 z4 => by rw [hld, hbd]; exact next13 c h x A X Y cA n cX nx cY ny ls xs us a z (S1 : Int) w' z0 LRL.out hn60 z1 z2 z3 z4
  have CE : Hid (∀ (X : Option Addr) (cX nx : Nat) (Y : Option Addr) (cY ny : Nat) (w' : World), Rl w' A ls → Rg ucells w' X xs → nx = (xs).length → Rg ucells w' Y ws → ny = (ws).length → Calls Tryz.prog 13 #[.agg #[.int .i64 c, .int .i64 h, .int .i64 x, .slice A n cA], .int .i64 a, .int .u64 (uz z), .int .i64 (-1), .slice X nx cX, .slice Y ny cY] w' (PairTo le_ be w')) := fun X cX nx Y cY ny w' z0 z1 z2 z3 z4 => by rw [hle_, hbe]; exact line13 c h x A X Y cA n cX nx cY ny ls xs ws a z (-1) w' z0 LRL.out hn60 z1 z2 z3 z4
  obtain rfl : bc = false := hbc.trans (decide_eq_false fun q => by have := (isSt_out q.1).2.2; omega)
  obtain rfl : bd = false := hbd.trans (decide_eq_false fun q => by have := (isSt_out q.1).2.2; omega)
  obtain rfl : be = false := hbe.trans (decide_eq_false fun q => by have := (isSt_out q.1).2.1; omega)
  clear hlc hbc Hbc hld hbd Hbd hle_ hbe Hbe
  have BA : Hid (ba = true ↔ ((nx : Int) = kn ∧ (nw : Int) = tw)) := by
    show _ ↔ _
    rw [hba]
    unfold okLn
    rw [decide_eq_true_iff, ← LX.out, ← LW.out, ← hkn, ← HTW.out]
    exact ⟨fun q => q.2, fun q => ⟨si, q⟩⟩
  have BB : Hid (bb = true ↔ ((nx : Int) = kn ∧ (nu : Int) = kn)) := by
    show _ ↔ _
    rw [hbb]
    unfold okNx
    rw [decide_eq_true_iff, le, ← LX.out, ← LU.out]
    exact ⟨fun q => q.2, fun q => ⟨si, q⟩⟩
  have LA0 : Hid (ba = false → la = []) := fun q => by rw [hla]; exact if_neg (by rw [← hba, q]; decide)
  have LA1 : Hid (ba = true → la = xs) := fun q => by rw [hla]; unfold lineU; rw [if_pos (by rw [← hba]; exact q), if_pos (by rw [hS0])]
  have LB0 : Hid (bb = false → lb = []) := fun q => by rw [hlb]; exact if_neg (by rw [← hbb, q]; decide)
  have LB1 : Hid (bb = true → lb = addR xs us) := fun q => by rw [hlb]; unfold nextU; rw [if_pos (by rw [← hbb]; exact q), if_pos (by rw [hS0])]; rfl
  clear hla hba Hba hlb hbb Hbb hkn ke le si hS0 hS1 he
  by_cases g1 : ¬ (nx : Int) = kn
  · skip
    obtain rfl : ba = false := by cases q : ba with | false => rfl | true => exact absurd (BA.out.1 q) (by omega)
    obtain rfl : bb = false := by cases q : bb with | false => rfl | true => exact absurd (BB.out.1 q) (by omega)
    have b1 : ((nx : Int) == kn) = false := by simp; omega
    have EA := Lib.hid (LA0.out (by rfl))
    have EB := Lib.hid (LB0.out (by rfl))
    clear g1
    go_enter Tryz.func8, Tryz.ntmps8
    go_wp2_with fail
    refine (head13_any _).mono ?_
    rintro e w1 ⟨rfl, hb⟩
    have B1 := Lib.hid (chain ((Below.refl w.heap.size w).alloc (Nat.le_refl _) _) hb)
    have N1 := Lib.hid ((NB.new w c h x (.slice A n cA)).below hb)
    clear hb
    obtain ⟨c0, c1, c2, c3⟩ := N1.out.cells
    have nl := N1.out.lt
    go_wp2_with fail
    refine (rall_any c h x A cA n ls _ (HRL.out.below B1.out) LRL.out).mono ?_
    rintro e w2 ⟨rfl, hb⟩
    rw [← HTW.out]
    have B2 := Lib.hid (chain B1.out hb)
    have N2 := Lib.hid (N1.out.below hb)
    clear hb c0 c1 c2 c3 nl B1 N1
    obtain ⟨c0, c1, c2, c3⟩ := N2.out.cells
    have nl := N2.out.lt
    go_wp2_with fail
    refine (great13 c h x A cA n _ 3 _ [⟨X, nx, cX⟩, ⟨U, nu, cU⟩, ⟨W, nw, cW⟩] _ false hgr (rg_block (heap_alloc_new _ _) rfl) rfl (by decide)).mono ?_
    rintro e w3 ⟨rfl, hb⟩
    replace hb := ((Below.refl w2.heap.size w2).alloc (Nat.le_refl _) _).trans (hb.mono (by simp))
    have B3 := Lib.hid (chain B2.out hb)
    have N3 := Lib.hid (N2.out.below hb)
    clear hb c0 c1 c2 c3 nl B2 N2
    obtain ⟨c0, c1, c2, c3⟩ := N3.out.cells
    have nl := N3.out.lt
    go_wp2_with fail
    refine (rright_of c h x A cA n ls _ (HRL.out.below B3.out) LRL.out hn1).mono ?_
    rintro e w4 ⟨rfl, hb⟩
    rw [← HER.out]
    have B4 := Lib.hid (chain B3.out hb)
    have N4 := Lib.hid (N3.out.below hb)
    clear hb c0 c1 c2 c3 nl B3 N3
    obtain ⟨c0, c1, c2, c3⟩ := N4.out.cells
    have nl := N4.out.lt
    go_wp2_with fail
    refine (rstages8 c h x A cA n ls _ (HRL.out.below B4.out) LRL.out hn60).mono ?_
    rintro e w5 ⟨AS, kS, nS, rfl, hnS, hRS, hb, hd1, hd2⟩
    have MS := Lib.hid hnS
    clear hnS hRS hd1 hd2
    have B5 := Lib.hid (chain B4.out hb)
    have N5 := Lib.hid (N4.out.below hb)
    clear hb c0 c1 c2 c3 nl B4 N4
    obtain ⟨c0, c1, c2, c3⟩ := N5.out.cells
    have nl := N5.out.lt
    obtain rfl : S0 = nS := HS0.out.trans MS.out.symm
    go_wp2_with fail
    refine (CA.out X cX nx W cW nw _ (HRL.out.below B5.out) (HX.out.below B5.out) LX.out (HW.out.below B5.out) LW.out).mono ?_
    rintro e w6 ⟨Aa, ka, na, rfl, h1, h2, hb, h4, h5⟩
    have Ma := Lib.hid h1; have Qa := Lib.hid h2
    clear h1 h2 h4 h5
    have B6 := Lib.hid (chain B5.out hb)
    have N6 := Lib.hid (N5.out.below hb)
    clear hb c0 c1 c2 c3 nl B5 N5
    obtain ⟨c0, c1, c2, c3⟩ := N6.out.cells
    have nl := N6.out.lt
    go_wp2_with fail
    refine (CB.out X cX nx U cU nu _ (HRL.out.below B6.out) (HX.out.below B6.out) LX.out (HU.out.below B6.out) LU.out).mono ?_
    rintro e w7 ⟨Ab, kb, nb, rfl, h1, h2, hb, h4, h5⟩
    have Mb := Lib.hid h1; have Qb := Lib.hid h2
    clear h1 h2 h4 h5
    have B7 := Lib.hid (chain B6.out hb)
    have N7 := Lib.hid (N6.out.below hb)
    replace Qa := Lib.hid (Qa.out.below hb)
    clear hb c0 c1 c2 c3 nl B6 N6
    obtain ⟨c0, c1, c2, c3⟩ := N7.out.cells
    have nl := N7.out.lt
    have v1 := V1.out; have v2 := V2.out
    go_wp2_with fail
    refine (CC.out X cX nx W cW nw _ (HRL.out.below B7.out) (HX.out.below B7.out) LX.out (HW.out.below B7.out) LW.out).mono ?_
    rintro e w8 ⟨Ac, kc, nc, rfl, h1, h2, hb, h4, h5⟩
    have Mc := Lib.hid h1; have Qc := Lib.hid h2
    clear h1 h2 h4 h5
    have B8 := Lib.hid (chain B7.out hb)
    have N8 := Lib.hid (N7.out.below hb)
    replace Qa := Lib.hid (Qa.out.below hb)
    replace Qb := Lib.hid (Qb.out.below hb)
    clear hb c0 c1 c2 c3 nl B7 N7
    obtain ⟨c0, c1, c2, c3⟩ := N8.out.cells
    have nl := N8.out.lt
    go_wp2_with fail
    refine (CD.out X cX nx U cU nu _ (HRL.out.below B8.out) (HX.out.below B8.out) LX.out (HU.out.below B8.out) LU.out).mono ?_
    rintro e w9 ⟨Ad, kd, nd, rfl, h1, h2, hb, h4, h5⟩
    have Md := Lib.hid h1; have Qd := Lib.hid h2
    clear h1 h2 h4 h5
    have B9 := Lib.hid (chain B8.out hb)
    have N9 := Lib.hid (N8.out.below hb)
    replace Qa := Lib.hid (Qa.out.below hb)
    replace Qb := Lib.hid (Qb.out.below hb)
    replace Qc := Lib.hid (Qc.out.below hb)
    clear hb c0 c1 c2 c3 nl B8 N8
    obtain ⟨c0, c1, c2, c3⟩ := N9.out.cells
    have nl := N9.out.lt
    clear v1 v2
    go_wp2_with fail
    refine (CE.out X cX nx W cW nw _ (HRL.out.below B9.out) (HX.out.below B9.out) LX.out (HW.out.below B9.out) LW.out).mono ?_
    rintro e w10 ⟨Ae, ke, ne, rfl, h1, h2, hb, h4, h5⟩
    have Me := Lib.hid h1; have Qe := Lib.hid h2
    clear h1 h2 h4 h5
    have B10 := Lib.hid (chain B9.out hb)
    have N10 := Lib.hid (N9.out.below hb)
    replace Qa := Lib.hid (Qa.out.below hb)
    replace Qb := Lib.hid (Qb.out.below hb)
    replace Qc := Lib.hid (Qc.out.below hb)
    replace Qd := Lib.hid (Qd.out.below hb)
    clear hb c0 c1 c2 c3 nl B9 N9
    obtain ⟨c0, c1, c2, c3⟩ := N10.out.cells
    have nl := N10.out.lt
    obtain rfl : na = 0 := by rw [Ma.out, EA.out]; rfl
    obtain rfl : nb = 0 := by rw [Mb.out, EB.out]; rfl
    go_wp2_with fail
    refine (CIN.out _ (HRL.out.below B10.out)).mono ?_
    rintro e w11 ⟨rfl, hb⟩
    have B11 := Lib.hid (chain B10.out hb)
    have N11 := Lib.hid (N10.out.below hb)
    replace Qa := Lib.hid (Qa.out.below hb)
    replace Qb := Lib.hid (Qb.out.below hb)
    replace Qc := Lib.hid (Qc.out.below hb)
    replace Qd := Lib.hid (Qd.out.below hb)
    replace Qe := Lib.hid (Qe.out.below hb)
    clear hb c0 c1 c2 c3 nl B10 N10
    obtain ⟨c0, c1, c2, c3⟩ := N11.out.cells
    have nl := N11.out.lt
    go_wp2_with fail
    go_ret
    exact ⟨rfl, B11.out⟩
  have g1 : (nx : Int) = kn := Decidable.not_not.1 g1
  by_cases g2 : (nw : Int) = tw
  · skip
    by_cases g3 : nu = nx
    · skip
      obtain rfl : ba = true := BA.out.2 ⟨g1, g2⟩
      obtain rfl : bb = true := BB.out.2 ⟨g1, by omega⟩
      have b1 : ((nx : Int) == kn) = true := by simp; omega
      have b2 : ((nw : Int) == tw) = true := by simp; omega
      have b3 : ((nu : Int) == (nx : Int)) = true := by simp; omega
      have EA := Lib.hid (LA1.out (by rfl))
      have EB := Lib.hid (LB1.out (by rfl))
      clear g1 g2 g3
      go_enter Tryz.func8, Tryz.ntmps8
      go_wp2_with fail
      refine (head13_any _).mono ?_
      rintro e w1 ⟨rfl, hb⟩
      have B1 := Lib.hid (chain ((Below.refl w.heap.size w).alloc (Nat.le_refl _) _) hb)
      have N1 := Lib.hid ((NB.new w c h x (.slice A n cA)).below hb)
      clear hb
      obtain ⟨c0, c1, c2, c3⟩ := N1.out.cells
      have nl := N1.out.lt
      go_wp2_with fail
      refine (rall_any c h x A cA n ls _ (HRL.out.below B1.out) LRL.out).mono ?_
      rintro e w2 ⟨rfl, hb⟩
      rw [← HTW.out]
      have B2 := Lib.hid (chain B1.out hb)
      have N2 := Lib.hid (N1.out.below hb)
      clear hb c0 c1 c2 c3 nl B1 N1
      obtain ⟨c0, c1, c2, c3⟩ := N2.out.cells
      have nl := N2.out.lt
      go_wp2_with fail
      refine (great13 c h x A cA n _ 3 _ [⟨X, nx, cX⟩, ⟨U, nu, cU⟩, ⟨W, nw, cW⟩] _ false hgr (rg_block (heap_alloc_new _ _) rfl) rfl (by decide)).mono ?_
      rintro e w3 ⟨rfl, hb⟩
      replace hb := ((Below.refl w2.heap.size w2).alloc (Nat.le_refl _) _).trans (hb.mono (by simp))
      have B3 := Lib.hid (chain B2.out hb)
      have N3 := Lib.hid (N2.out.below hb)
      clear hb c0 c1 c2 c3 nl B2 N2
      obtain ⟨c0, c1, c2, c3⟩ := N3.out.cells
      have nl := N3.out.lt
      go_wp2_with fail
      refine (rright_of c h x A cA n ls _ (HRL.out.below B3.out) LRL.out hn1).mono ?_
      rintro e w4 ⟨rfl, hb⟩
      rw [← HER.out]
      have B4 := Lib.hid (chain B3.out hb)
      have N4 := Lib.hid (N3.out.below hb)
      clear hb c0 c1 c2 c3 nl B3 N3
      obtain ⟨c0, c1, c2, c3⟩ := N4.out.cells
      have nl := N4.out.lt
      go_wp2_with fail
      refine (rstages8 c h x A cA n ls _ (HRL.out.below B4.out) LRL.out hn60).mono ?_
      rintro e w5 ⟨AS, kS, nS, rfl, hnS, hRS, hb, hd1, hd2⟩
      have MS := Lib.hid hnS
      clear hnS hRS hd1 hd2
      have B5 := Lib.hid (chain B4.out hb)
      have N5 := Lib.hid (N4.out.below hb)
      clear hb c0 c1 c2 c3 nl B4 N4
      obtain ⟨c0, c1, c2, c3⟩ := N5.out.cells
      have nl := N5.out.lt
      obtain rfl : S0 = nS := HS0.out.trans MS.out.symm
      go_wp2_with fail
      refine (CA.out X cX nx W cW nw _ (HRL.out.below B5.out) (HX.out.below B5.out) LX.out (HW.out.below B5.out) LW.out).mono ?_
      rintro e w6 ⟨Aa, ka, na, rfl, h1, h2, hb, h4, h5⟩
      have Ma := Lib.hid h1; have Qa := Lib.hid h2
      clear h1 h2 h4 h5
      have B6 := Lib.hid (chain B5.out hb)
      have N6 := Lib.hid (N5.out.below hb)
      clear hb c0 c1 c2 c3 nl B5 N5
      obtain ⟨c0, c1, c2, c3⟩ := N6.out.cells
      have nl := N6.out.lt
      go_wp2_with fail
      refine (CB.out X cX nx U cU nu _ (HRL.out.below B6.out) (HX.out.below B6.out) LX.out (HU.out.below B6.out) LU.out).mono ?_
      rintro e w7 ⟨Ab, kb, nb, rfl, h1, h2, hb, h4, h5⟩
      have Mb := Lib.hid h1; have Qb := Lib.hid h2
      clear h1 h2 h4 h5
      have B7 := Lib.hid (chain B6.out hb)
      have N7 := Lib.hid (N6.out.below hb)
      replace Qa := Lib.hid (Qa.out.below hb)
      clear hb c0 c1 c2 c3 nl B6 N6
      obtain ⟨c0, c1, c2, c3⟩ := N7.out.cells
      have nl := N7.out.lt
      have v1 := V1.out; have v2 := V2.out
      go_wp2_with fail
      refine (CC.out X cX nx W cW nw _ (HRL.out.below B7.out) (HX.out.below B7.out) LX.out (HW.out.below B7.out) LW.out).mono ?_
      rintro e w8 ⟨Ac, kc, nc, rfl, h1, h2, hb, h4, h5⟩
      have Mc := Lib.hid h1; have Qc := Lib.hid h2
      clear h1 h2 h4 h5
      have B8 := Lib.hid (chain B7.out hb)
      have N8 := Lib.hid (N7.out.below hb)
      replace Qa := Lib.hid (Qa.out.below hb)
      replace Qb := Lib.hid (Qb.out.below hb)
      clear hb c0 c1 c2 c3 nl B7 N7
      obtain ⟨c0, c1, c2, c3⟩ := N8.out.cells
      have nl := N8.out.lt
      go_wp2_with fail
      refine (CD.out X cX nx U cU nu _ (HRL.out.below B8.out) (HX.out.below B8.out) LX.out (HU.out.below B8.out) LU.out).mono ?_
      rintro e w9 ⟨Ad, kd, nd, rfl, h1, h2, hb, h4, h5⟩
      have Md := Lib.hid h1; have Qd := Lib.hid h2
      clear h1 h2 h4 h5
      have B9 := Lib.hid (chain B8.out hb)
      have N9 := Lib.hid (N8.out.below hb)
      replace Qa := Lib.hid (Qa.out.below hb)
      replace Qb := Lib.hid (Qb.out.below hb)
      replace Qc := Lib.hid (Qc.out.below hb)
      clear hb c0 c1 c2 c3 nl B8 N8
      obtain ⟨c0, c1, c2, c3⟩ := N9.out.cells
      have nl := N9.out.lt
      clear v1 v2
      go_wp2_with fail
      refine (CE.out X cX nx W cW nw _ (HRL.out.below B9.out) (HX.out.below B9.out) LX.out (HW.out.below B9.out) LW.out).mono ?_
      rintro e w10 ⟨Ae, ke, ne, rfl, h1, h2, hb, h4, h5⟩
      have Me := Lib.hid h1; have Qe := Lib.hid h2
      clear h1 h2 h4 h5
      have B10 := Lib.hid (chain B9.out hb)
      have N10 := Lib.hid (N9.out.below hb)
      replace Qa := Lib.hid (Qa.out.below hb)
      replace Qb := Lib.hid (Qb.out.below hb)
      replace Qc := Lib.hid (Qc.out.below hb)
      replace Qd := Lib.hid (Qd.out.below hb)
      clear hb c0 c1 c2 c3 nl B9 N9
      obtain ⟨c0, c1, c2, c3⟩ := N10.out.cells
      have nl := N10.out.lt
      go_wp2_with fail
      refine (CIN.out _ (HRL.out.below B10.out)).mono ?_
      rintro e w11 ⟨rfl, hb⟩
      have B11 := Lib.hid (chain B10.out hb)
      have N11 := Lib.hid (N10.out.below hb)
      replace Qa := Lib.hid (Qa.out.below hb)
      replace Qb := Lib.hid (Qb.out.below hb)
      replace Qc := Lib.hid (Qc.out.below hb)
      replace Qd := Lib.hid (Qd.out.below hb)
      replace Qe := Lib.hid (Qe.out.below hb)
      clear hb c0 c1 c2 c3 nl B10 N10
      obtain ⟨c0, c1, c2, c3⟩ := N11.out.cells
      have nl := N11.out.lt
      go_wp2_with fail
      refine (ssame Aa X ka cX na nx (la) (xs) _ Qa.out (HX.out.below B11.out) Ma.out LX.out (by rw [Ma.out, EA.out, ← LX.out]; omega) (EA.out)).mono ?_
      rintro e w12 ⟨rfl, hb⟩
      have B12 := Lib.hid (chain B11.out hb)
      have N12 := Lib.hid (N11.out.below hb)
      replace Qa := Lib.hid (Qa.out.below hb)
      replace Qb := Lib.hid (Qb.out.below hb)
      replace Qc := Lib.hid (Qc.out.below hb)
      replace Qd := Lib.hid (Qd.out.below hb)
      replace Qe := Lib.hid (Qe.out.below hb)
      clear hb c0 c1 c2 c3 nl B11 N11
      obtain ⟨c0, c1, c2, c3⟩ := N12.out.cells
      have nl := N12.out.lt
      go_wp2_with fail
      refine (nadd X U cX cU nx nu (xs) (us) _ (HX.out.below B12.out) (HU.out.below B12.out) LX.out LU.out (by omega)).mono ?_
      rintro e w13 ⟨Am, km, nm, rfl, h1, h2, hb, h4, h5, h6⟩
      have Mm := Lib.hid h1; have Qm := Lib.hid h2
      clear h1 h2 h4 h5 h6
      have B13 := Lib.hid (chain B12.out hb)
      have N13 := Lib.hid (N12.out.below hb)
      replace Qa := Lib.hid (Qa.out.below hb)
      replace Qb := Lib.hid (Qb.out.below hb)
      replace Qc := Lib.hid (Qc.out.below hb)
      replace Qd := Lib.hid (Qd.out.below hb)
      replace Qe := Lib.hid (Qe.out.below hb)
      clear hb c0 c1 c2 c3 nl B12 N12
      obtain ⟨c0, c1, c2, c3⟩ := N13.out.cells
      have nl := N13.out.lt
      go_wp2_with fail
      refine (ssame Ab Am kb km nb nm (lb) (addR (xs) (us)) _ Qb.out Qm.out Mb.out Mm.out (by rw [Mb.out, EB.out]; simp only [addR, List.length_zipWith]; have := LX.out; omega) (EB.out)).mono ?_
      rintro e w14 ⟨rfl, hb⟩
      have B14 := Lib.hid (chain B13.out hb)
      have N14 := Lib.hid (N13.out.below hb)
      replace Qa := Lib.hid (Qa.out.below hb)
      replace Qb := Lib.hid (Qb.out.below hb)
      replace Qc := Lib.hid (Qc.out.below hb)
      replace Qd := Lib.hid (Qd.out.below hb)
      replace Qe := Lib.hid (Qe.out.below hb)
      replace Qm := Lib.hid (Qm.out.below hb)
      clear hb c0 c1 c2 c3 nl B13 N13
      obtain ⟨c0, c1, c2, c3⟩ := N14.out.cells
      have nl := N14.out.lt
      go_wp2_with fail
      go_ret
      exact ⟨rfl, B14.out⟩
    · skip
      obtain rfl : ba = true := BA.out.2 ⟨g1, g2⟩
      obtain rfl : bb = false := by cases q : bb with | false => rfl | true => exact absurd (BB.out.1 q) (by omega)
      have b1 : ((nx : Int) == kn) = true := by simp; omega
      have b2 : ((nw : Int) == tw) = true := by simp; omega
      have b3 : ((nu : Int) == (nx : Int)) = false := by simp; omega
      have EA := Lib.hid (LA1.out (by rfl))
      have EB := Lib.hid (LB0.out (by rfl))
      clear g1 g2 g3
      go_enter Tryz.func8, Tryz.ntmps8
      go_wp2_with fail
      refine (head13_any _).mono ?_
      rintro e w1 ⟨rfl, hb⟩
      have B1 := Lib.hid (chain ((Below.refl w.heap.size w).alloc (Nat.le_refl _) _) hb)
      have N1 := Lib.hid ((NB.new w c h x (.slice A n cA)).below hb)
      clear hb
      obtain ⟨c0, c1, c2, c3⟩ := N1.out.cells
      have nl := N1.out.lt
      go_wp2_with fail
      refine (rall_any c h x A cA n ls _ (HRL.out.below B1.out) LRL.out).mono ?_
      rintro e w2 ⟨rfl, hb⟩
      rw [← HTW.out]
      have B2 := Lib.hid (chain B1.out hb)
      have N2 := Lib.hid (N1.out.below hb)
      clear hb c0 c1 c2 c3 nl B1 N1
      obtain ⟨c0, c1, c2, c3⟩ := N2.out.cells
      have nl := N2.out.lt
      go_wp2_with fail
      refine (great13 c h x A cA n _ 3 _ [⟨X, nx, cX⟩, ⟨U, nu, cU⟩, ⟨W, nw, cW⟩] _ false hgr (rg_block (heap_alloc_new _ _) rfl) rfl (by decide)).mono ?_
      rintro e w3 ⟨rfl, hb⟩
      replace hb := ((Below.refl w2.heap.size w2).alloc (Nat.le_refl _) _).trans (hb.mono (by simp))
      have B3 := Lib.hid (chain B2.out hb)
      have N3 := Lib.hid (N2.out.below hb)
      clear hb c0 c1 c2 c3 nl B2 N2
      obtain ⟨c0, c1, c2, c3⟩ := N3.out.cells
      have nl := N3.out.lt
      go_wp2_with fail
      refine (rright_of c h x A cA n ls _ (HRL.out.below B3.out) LRL.out hn1).mono ?_
      rintro e w4 ⟨rfl, hb⟩
      rw [← HER.out]
      have B4 := Lib.hid (chain B3.out hb)
      have N4 := Lib.hid (N3.out.below hb)
      clear hb c0 c1 c2 c3 nl B3 N3
      obtain ⟨c0, c1, c2, c3⟩ := N4.out.cells
      have nl := N4.out.lt
      go_wp2_with fail
      refine (rstages8 c h x A cA n ls _ (HRL.out.below B4.out) LRL.out hn60).mono ?_
      rintro e w5 ⟨AS, kS, nS, rfl, hnS, hRS, hb, hd1, hd2⟩
      have MS := Lib.hid hnS
      clear hnS hRS hd1 hd2
      have B5 := Lib.hid (chain B4.out hb)
      have N5 := Lib.hid (N4.out.below hb)
      clear hb c0 c1 c2 c3 nl B4 N4
      obtain ⟨c0, c1, c2, c3⟩ := N5.out.cells
      have nl := N5.out.lt
      obtain rfl : S0 = nS := HS0.out.trans MS.out.symm
      go_wp2_with fail
      refine (CA.out X cX nx W cW nw _ (HRL.out.below B5.out) (HX.out.below B5.out) LX.out (HW.out.below B5.out) LW.out).mono ?_
      rintro e w6 ⟨Aa, ka, na, rfl, h1, h2, hb, h4, h5⟩
      have Ma := Lib.hid h1; have Qa := Lib.hid h2
      clear h1 h2 h4 h5
      have B6 := Lib.hid (chain B5.out hb)
      have N6 := Lib.hid (N5.out.below hb)
      clear hb c0 c1 c2 c3 nl B5 N5
      obtain ⟨c0, c1, c2, c3⟩ := N6.out.cells
      have nl := N6.out.lt
      go_wp2_with fail
      refine (CB.out X cX nx U cU nu _ (HRL.out.below B6.out) (HX.out.below B6.out) LX.out (HU.out.below B6.out) LU.out).mono ?_
      rintro e w7 ⟨Ab, kb, nb, rfl, h1, h2, hb, h4, h5⟩
      have Mb := Lib.hid h1; have Qb := Lib.hid h2
      clear h1 h2 h4 h5
      have B7 := Lib.hid (chain B6.out hb)
      have N7 := Lib.hid (N6.out.below hb)
      replace Qa := Lib.hid (Qa.out.below hb)
      clear hb c0 c1 c2 c3 nl B6 N6
      obtain ⟨c0, c1, c2, c3⟩ := N7.out.cells
      have nl := N7.out.lt
      have v1 := V1.out; have v2 := V2.out
      go_wp2_with fail
      refine (CC.out X cX nx W cW nw _ (HRL.out.below B7.out) (HX.out.below B7.out) LX.out (HW.out.below B7.out) LW.out).mono ?_
      rintro e w8 ⟨Ac, kc, nc, rfl, h1, h2, hb, h4, h5⟩
      have Mc := Lib.hid h1; have Qc := Lib.hid h2
      clear h1 h2 h4 h5
      have B8 := Lib.hid (chain B7.out hb)
      have N8 := Lib.hid (N7.out.below hb)
      replace Qa := Lib.hid (Qa.out.below hb)
      replace Qb := Lib.hid (Qb.out.below hb)
      clear hb c0 c1 c2 c3 nl B7 N7
      obtain ⟨c0, c1, c2, c3⟩ := N8.out.cells
      have nl := N8.out.lt
      go_wp2_with fail
      refine (CD.out X cX nx U cU nu _ (HRL.out.below B8.out) (HX.out.below B8.out) LX.out (HU.out.below B8.out) LU.out).mono ?_
      rintro e w9 ⟨Ad, kd, nd, rfl, h1, h2, hb, h4, h5⟩
      have Md := Lib.hid h1; have Qd := Lib.hid h2
      clear h1 h2 h4 h5
      have B9 := Lib.hid (chain B8.out hb)
      have N9 := Lib.hid (N8.out.below hb)
      replace Qa := Lib.hid (Qa.out.below hb)
      replace Qb := Lib.hid (Qb.out.below hb)
      replace Qc := Lib.hid (Qc.out.below hb)
      clear hb c0 c1 c2 c3 nl B8 N8
      obtain ⟨c0, c1, c2, c3⟩ := N9.out.cells
      have nl := N9.out.lt
      clear v1 v2
      go_wp2_with fail
      refine (CE.out X cX nx W cW nw _ (HRL.out.below B9.out) (HX.out.below B9.out) LX.out (HW.out.below B9.out) LW.out).mono ?_
      rintro e w10 ⟨Ae, ke, ne, rfl, h1, h2, hb, h4, h5⟩
      have Me := Lib.hid h1; have Qe := Lib.hid h2
      clear h1 h2 h4 h5
      have B10 := Lib.hid (chain B9.out hb)
      have N10 := Lib.hid (N9.out.below hb)
      replace Qa := Lib.hid (Qa.out.below hb)
      replace Qb := Lib.hid (Qb.out.below hb)
      replace Qc := Lib.hid (Qc.out.below hb)
      replace Qd := Lib.hid (Qd.out.below hb)
      clear hb c0 c1 c2 c3 nl B9 N9
      obtain ⟨c0, c1, c2, c3⟩ := N10.out.cells
      have nl := N10.out.lt
      obtain rfl : nb = 0 := by rw [Mb.out, EB.out]; rfl
      go_wp2_with fail
      refine (CIN.out _ (HRL.out.below B10.out)).mono ?_
      rintro e w11 ⟨rfl, hb⟩
      have B11 := Lib.hid (chain B10.out hb)
      have N11 := Lib.hid (N10.out.below hb)
      replace Qa := Lib.hid (Qa.out.below hb)
      replace Qb := Lib.hid (Qb.out.below hb)
      replace Qc := Lib.hid (Qc.out.below hb)
      replace Qd := Lib.hid (Qd.out.below hb)
      replace Qe := Lib.hid (Qe.out.below hb)
      clear hb c0 c1 c2 c3 nl B10 N10
      obtain ⟨c0, c1, c2, c3⟩ := N11.out.cells
      have nl := N11.out.lt
      go_wp2_with fail
      refine (ssame Aa X ka cX na nx (la) (xs) _ Qa.out (HX.out.below B11.out) Ma.out LX.out (by rw [Ma.out, EA.out, ← LX.out]; omega) (EA.out)).mono ?_
      rintro e w12 ⟨rfl, hb⟩
      have B12 := Lib.hid (chain B11.out hb)
      have N12 := Lib.hid (N11.out.below hb)
      replace Qa := Lib.hid (Qa.out.below hb)
      replace Qb := Lib.hid (Qb.out.below hb)
      replace Qc := Lib.hid (Qc.out.below hb)
      replace Qd := Lib.hid (Qd.out.below hb)
      replace Qe := Lib.hid (Qe.out.below hb)
      clear hb c0 c1 c2 c3 nl B11 N11
      obtain ⟨c0, c1, c2, c3⟩ := N12.out.cells
      have nl := N12.out.lt
      go_wp2_with fail
      go_ret
      exact ⟨rfl, B12.out⟩
  · skip
    by_cases g3 : nu = nx
    · skip
      obtain rfl : ba = false := by cases q : ba with | false => rfl | true => exact absurd (BA.out.1 q) (by omega)
      obtain rfl : bb = true := BB.out.2 ⟨g1, by omega⟩
      have b1 : ((nx : Int) == kn) = true := by simp; omega
      have b2 : ((nw : Int) == tw) = false := by simp; omega
      have b3 : ((nu : Int) == (nx : Int)) = true := by simp; omega
      have EA := Lib.hid (LA0.out (by rfl))
      have EB := Lib.hid (LB1.out (by rfl))
      clear g1 g2 g3
      go_enter Tryz.func8, Tryz.ntmps8
      go_wp2_with fail
      refine (head13_any _).mono ?_
      rintro e w1 ⟨rfl, hb⟩
      have B1 := Lib.hid (chain ((Below.refl w.heap.size w).alloc (Nat.le_refl _) _) hb)
      have N1 := Lib.hid ((NB.new w c h x (.slice A n cA)).below hb)
      clear hb
      obtain ⟨c0, c1, c2, c3⟩ := N1.out.cells
      have nl := N1.out.lt
      go_wp2_with fail
      refine (rall_any c h x A cA n ls _ (HRL.out.below B1.out) LRL.out).mono ?_
      rintro e w2 ⟨rfl, hb⟩
      rw [← HTW.out]
      have B2 := Lib.hid (chain B1.out hb)
      have N2 := Lib.hid (N1.out.below hb)
      clear hb c0 c1 c2 c3 nl B1 N1
      obtain ⟨c0, c1, c2, c3⟩ := N2.out.cells
      have nl := N2.out.lt
      go_wp2_with fail
      refine (great13 c h x A cA n _ 3 _ [⟨X, nx, cX⟩, ⟨U, nu, cU⟩, ⟨W, nw, cW⟩] _ false hgr (rg_block (heap_alloc_new _ _) rfl) rfl (by decide)).mono ?_
      rintro e w3 ⟨rfl, hb⟩
      replace hb := ((Below.refl w2.heap.size w2).alloc (Nat.le_refl _) _).trans (hb.mono (by simp))
      have B3 := Lib.hid (chain B2.out hb)
      have N3 := Lib.hid (N2.out.below hb)
      clear hb c0 c1 c2 c3 nl B2 N2
      obtain ⟨c0, c1, c2, c3⟩ := N3.out.cells
      have nl := N3.out.lt
      go_wp2_with fail
      refine (rright_of c h x A cA n ls _ (HRL.out.below B3.out) LRL.out hn1).mono ?_
      rintro e w4 ⟨rfl, hb⟩
      rw [← HER.out]
      have B4 := Lib.hid (chain B3.out hb)
      have N4 := Lib.hid (N3.out.below hb)
      clear hb c0 c1 c2 c3 nl B3 N3
      obtain ⟨c0, c1, c2, c3⟩ := N4.out.cells
      have nl := N4.out.lt
      go_wp2_with fail
      refine (rstages8 c h x A cA n ls _ (HRL.out.below B4.out) LRL.out hn60).mono ?_
      rintro e w5 ⟨AS, kS, nS, rfl, hnS, hRS, hb, hd1, hd2⟩
      have MS := Lib.hid hnS
      clear hnS hRS hd1 hd2
      have B5 := Lib.hid (chain B4.out hb)
      have N5 := Lib.hid (N4.out.below hb)
      clear hb c0 c1 c2 c3 nl B4 N4
      obtain ⟨c0, c1, c2, c3⟩ := N5.out.cells
      have nl := N5.out.lt
      obtain rfl : S0 = nS := HS0.out.trans MS.out.symm
      go_wp2_with fail
      refine (CA.out X cX nx W cW nw _ (HRL.out.below B5.out) (HX.out.below B5.out) LX.out (HW.out.below B5.out) LW.out).mono ?_
      rintro e w6 ⟨Aa, ka, na, rfl, h1, h2, hb, h4, h5⟩
      have Ma := Lib.hid h1; have Qa := Lib.hid h2
      clear h1 h2 h4 h5
      have B6 := Lib.hid (chain B5.out hb)
      have N6 := Lib.hid (N5.out.below hb)
      clear hb c0 c1 c2 c3 nl B5 N5
      obtain ⟨c0, c1, c2, c3⟩ := N6.out.cells
      have nl := N6.out.lt
      go_wp2_with fail
      refine (CB.out X cX nx U cU nu _ (HRL.out.below B6.out) (HX.out.below B6.out) LX.out (HU.out.below B6.out) LU.out).mono ?_
      rintro e w7 ⟨Ab, kb, nb, rfl, h1, h2, hb, h4, h5⟩
      have Mb := Lib.hid h1; have Qb := Lib.hid h2
      clear h1 h2 h4 h5
      have B7 := Lib.hid (chain B6.out hb)
      have N7 := Lib.hid (N6.out.below hb)
      replace Qa := Lib.hid (Qa.out.below hb)
      clear hb c0 c1 c2 c3 nl B6 N6
      obtain ⟨c0, c1, c2, c3⟩ := N7.out.cells
      have nl := N7.out.lt
      have v1 := V1.out; have v2 := V2.out
      go_wp2_with fail
      refine (CC.out X cX nx W cW nw _ (HRL.out.below B7.out) (HX.out.below B7.out) LX.out (HW.out.below B7.out) LW.out).mono ?_
      rintro e w8 ⟨Ac, kc, nc, rfl, h1, h2, hb, h4, h5⟩
      have Mc := Lib.hid h1; have Qc := Lib.hid h2
      clear h1 h2 h4 h5
      have B8 := Lib.hid (chain B7.out hb)
      have N8 := Lib.hid (N7.out.below hb)
      replace Qa := Lib.hid (Qa.out.below hb)
      replace Qb := Lib.hid (Qb.out.below hb)
      clear hb c0 c1 c2 c3 nl B7 N7
      obtain ⟨c0, c1, c2, c3⟩ := N8.out.cells
      have nl := N8.out.lt
      go_wp2_with fail
      refine (CD.out X cX nx U cU nu _ (HRL.out.below B8.out) (HX.out.below B8.out) LX.out (HU.out.below B8.out) LU.out).mono ?_
      rintro e w9 ⟨Ad, kd, nd, rfl, h1, h2, hb, h4, h5⟩
      have Md := Lib.hid h1; have Qd := Lib.hid h2
      clear h1 h2 h4 h5
      have B9 := Lib.hid (chain B8.out hb)
      have N9 := Lib.hid (N8.out.below hb)
      replace Qa := Lib.hid (Qa.out.below hb)
      replace Qb := Lib.hid (Qb.out.below hb)
      replace Qc := Lib.hid (Qc.out.below hb)
      clear hb c0 c1 c2 c3 nl B8 N8
      obtain ⟨c0, c1, c2, c3⟩ := N9.out.cells
      have nl := N9.out.lt
      clear v1 v2
      go_wp2_with fail
      refine (CE.out X cX nx W cW nw _ (HRL.out.below B9.out) (HX.out.below B9.out) LX.out (HW.out.below B9.out) LW.out).mono ?_
      rintro e w10 ⟨Ae, ke, ne, rfl, h1, h2, hb, h4, h5⟩
      have Me := Lib.hid h1; have Qe := Lib.hid h2
      clear h1 h2 h4 h5
      have B10 := Lib.hid (chain B9.out hb)
      have N10 := Lib.hid (N9.out.below hb)
      replace Qa := Lib.hid (Qa.out.below hb)
      replace Qb := Lib.hid (Qb.out.below hb)
      replace Qc := Lib.hid (Qc.out.below hb)
      replace Qd := Lib.hid (Qd.out.below hb)
      clear hb c0 c1 c2 c3 nl B9 N9
      obtain ⟨c0, c1, c2, c3⟩ := N10.out.cells
      have nl := N10.out.lt
      obtain rfl : na = 0 := by rw [Ma.out, EA.out]; rfl
      go_wp2_with fail
      refine (CIN.out _ (HRL.out.below B10.out)).mono ?_
      rintro e w11 ⟨rfl, hb⟩
      have B11 := Lib.hid (chain B10.out hb)
      have N11 := Lib.hid (N10.out.below hb)
      replace Qa := Lib.hid (Qa.out.below hb)
      replace Qb := Lib.hid (Qb.out.below hb)
      replace Qc := Lib.hid (Qc.out.below hb)
      replace Qd := Lib.hid (Qd.out.below hb)
      replace Qe := Lib.hid (Qe.out.below hb)
      clear hb c0 c1 c2 c3 nl B10 N10
      obtain ⟨c0, c1, c2, c3⟩ := N11.out.cells
      have nl := N11.out.lt
      go_wp2_with fail
      refine (nadd X U cX cU nx nu (xs) (us) _ (HX.out.below B11.out) (HU.out.below B11.out) LX.out LU.out (by omega)).mono ?_
      rintro e w12 ⟨Am, km, nm, rfl, h1, h2, hb, h4, h5, h6⟩
      have Mm := Lib.hid h1; have Qm := Lib.hid h2
      clear h1 h2 h4 h5 h6
      have B12 := Lib.hid (chain B11.out hb)
      have N12 := Lib.hid (N11.out.below hb)
      replace Qa := Lib.hid (Qa.out.below hb)
      replace Qb := Lib.hid (Qb.out.below hb)
      replace Qc := Lib.hid (Qc.out.below hb)
      replace Qd := Lib.hid (Qd.out.below hb)
      replace Qe := Lib.hid (Qe.out.below hb)
      clear hb c0 c1 c2 c3 nl B11 N11
      obtain ⟨c0, c1, c2, c3⟩ := N12.out.cells
      have nl := N12.out.lt
      go_wp2_with fail
      refine (ssame Ab Am kb km nb nm (lb) (addR (xs) (us)) _ Qb.out Qm.out Mb.out Mm.out (by rw [Mb.out, EB.out]; simp only [addR, List.length_zipWith]; have := LX.out; omega) (EB.out)).mono ?_
      rintro e w13 ⟨rfl, hb⟩
      have B13 := Lib.hid (chain B12.out hb)
      have N13 := Lib.hid (N12.out.below hb)
      replace Qa := Lib.hid (Qa.out.below hb)
      replace Qb := Lib.hid (Qb.out.below hb)
      replace Qc := Lib.hid (Qc.out.below hb)
      replace Qd := Lib.hid (Qd.out.below hb)
      replace Qe := Lib.hid (Qe.out.below hb)
      replace Qm := Lib.hid (Qm.out.below hb)
      clear hb c0 c1 c2 c3 nl B12 N12
      obtain ⟨c0, c1, c2, c3⟩ := N13.out.cells
      have nl := N13.out.lt
      go_wp2_with fail
      go_ret
      exact ⟨rfl, B13.out⟩
    · skip
      obtain rfl : ba = false := by cases q : ba with | false => rfl | true => exact absurd (BA.out.1 q) (by omega)
      obtain rfl : bb = false := by cases q : bb with | false => rfl | true => exact absurd (BB.out.1 q) (by omega)
      have b1 : ((nx : Int) == kn) = true := by simp; omega
      have b2 : ((nw : Int) == tw) = false := by simp; omega
      have b3 : ((nu : Int) == (nx : Int)) = false := by simp; omega
      have EA := Lib.hid (LA0.out (by rfl))
      have EB := Lib.hid (LB0.out (by rfl))
      clear g1 g2 g3
      go_enter Tryz.func8, Tryz.ntmps8
      go_wp2_with fail
      refine (head13_any _).mono ?_
      rintro e w1 ⟨rfl, hb⟩
      have B1 := Lib.hid (chain ((Below.refl w.heap.size w).alloc (Nat.le_refl _) _) hb)
      have N1 := Lib.hid ((NB.new w c h x (.slice A n cA)).below hb)
      clear hb
      obtain ⟨c0, c1, c2, c3⟩ := N1.out.cells
      have nl := N1.out.lt
      go_wp2_with fail
      refine (rall_any c h x A cA n ls _ (HRL.out.below B1.out) LRL.out).mono ?_
      rintro e w2 ⟨rfl, hb⟩
      rw [← HTW.out]
      have B2 := Lib.hid (chain B1.out hb)
      have N2 := Lib.hid (N1.out.below hb)
      clear hb c0 c1 c2 c3 nl B1 N1
      obtain ⟨c0, c1, c2, c3⟩ := N2.out.cells
      have nl := N2.out.lt
      go_wp2_with fail
      refine (great13 c h x A cA n _ 3 _ [⟨X, nx, cX⟩, ⟨U, nu, cU⟩, ⟨W, nw, cW⟩] _ false hgr (rg_block (heap_alloc_new _ _) rfl) rfl (by decide)).mono ?_
      rintro e w3 ⟨rfl, hb⟩
      replace hb := ((Below.refl w2.heap.size w2).alloc (Nat.le_refl _) _).trans (hb.mono (by simp))
      have B3 := Lib.hid (chain B2.out hb)
      have N3 := Lib.hid (N2.out.below hb)
      clear hb c0 c1 c2 c3 nl B2 N2
      obtain ⟨c0, c1, c2, c3⟩ := N3.out.cells
      have nl := N3.out.lt
      go_wp2_with fail
      refine (rright_of c h x A cA n ls _ (HRL.out.below B3.out) LRL.out hn1).mono ?_
      rintro e w4 ⟨rfl, hb⟩
      rw [← HER.out]
      have B4 := Lib.hid (chain B3.out hb)
      have N4 := Lib.hid (N3.out.below hb)
      clear hb c0 c1 c2 c3 nl B3 N3
      obtain ⟨c0, c1, c2, c3⟩ := N4.out.cells
      have nl := N4.out.lt
      go_wp2_with fail
      refine (rstages8 c h x A cA n ls _ (HRL.out.below B4.out) LRL.out hn60).mono ?_
      rintro e w5 ⟨AS, kS, nS, rfl, hnS, hRS, hb, hd1, hd2⟩
      have MS := Lib.hid hnS
      clear hnS hRS hd1 hd2
      have B5 := Lib.hid (chain B4.out hb)
      have N5 := Lib.hid (N4.out.below hb)
      clear hb c0 c1 c2 c3 nl B4 N4
      obtain ⟨c0, c1, c2, c3⟩ := N5.out.cells
      have nl := N5.out.lt
      obtain rfl : S0 = nS := HS0.out.trans MS.out.symm
      go_wp2_with fail
      refine (CA.out X cX nx W cW nw _ (HRL.out.below B5.out) (HX.out.below B5.out) LX.out (HW.out.below B5.out) LW.out).mono ?_
      rintro e w6 ⟨Aa, ka, na, rfl, h1, h2, hb, h4, h5⟩
      have Ma := Lib.hid h1; have Qa := Lib.hid h2
      clear h1 h2 h4 h5
      have B6 := Lib.hid (chain B5.out hb)
      have N6 := Lib.hid (N5.out.below hb)
      clear hb c0 c1 c2 c3 nl B5 N5
      obtain ⟨c0, c1, c2, c3⟩ := N6.out.cells
      have nl := N6.out.lt
      go_wp2_with fail
      refine (CB.out X cX nx U cU nu _ (HRL.out.below B6.out) (HX.out.below B6.out) LX.out (HU.out.below B6.out) LU.out).mono ?_
      rintro e w7 ⟨Ab, kb, nb, rfl, h1, h2, hb, h4, h5⟩
      have Mb := Lib.hid h1; have Qb := Lib.hid h2
      clear h1 h2 h4 h5
      have B7 := Lib.hid (chain B6.out hb)
      have N7 := Lib.hid (N6.out.below hb)
      replace Qa := Lib.hid (Qa.out.below hb)
      clear hb c0 c1 c2 c3 nl B6 N6
      obtain ⟨c0, c1, c2, c3⟩ := N7.out.cells
      have nl := N7.out.lt
      have v1 := V1.out; have v2 := V2.out
      go_wp2_with fail
      refine (CC.out X cX nx W cW nw _ (HRL.out.below B7.out) (HX.out.below B7.out) LX.out (HW.out.below B7.out) LW.out).mono ?_
      rintro e w8 ⟨Ac, kc, nc, rfl, h1, h2, hb, h4, h5⟩
      have Mc := Lib.hid h1; have Qc := Lib.hid h2
      clear h1 h2 h4 h5
      have B8 := Lib.hid (chain B7.out hb)
      have N8 := Lib.hid (N7.out.below hb)
      replace Qa := Lib.hid (Qa.out.below hb)
      replace Qb := Lib.hid (Qb.out.below hb)
      clear hb c0 c1 c2 c3 nl B7 N7
      obtain ⟨c0, c1, c2, c3⟩ := N8.out.cells
      have nl := N8.out.lt
      go_wp2_with fail
      refine (CD.out X cX nx U cU nu _ (HRL.out.below B8.out) (HX.out.below B8.out) LX.out (HU.out.below B8.out) LU.out).mono ?_
      rintro e w9 ⟨Ad, kd, nd, rfl, h1, h2, hb, h4, h5⟩
      have Md := Lib.hid h1; have Qd := Lib.hid h2
      clear h1 h2 h4 h5
      have B9 := Lib.hid (chain B8.out hb)
      have N9 := Lib.hid (N8.out.below hb)
      replace Qa := Lib.hid (Qa.out.below hb)
      replace Qb := Lib.hid (Qb.out.below hb)
      replace Qc := Lib.hid (Qc.out.below hb)
      clear hb c0 c1 c2 c3 nl B8 N8
      obtain ⟨c0, c1, c2, c3⟩ := N9.out.cells
      have nl := N9.out.lt
      clear v1 v2
      go_wp2_with fail
      refine (CE.out X cX nx W cW nw _ (HRL.out.below B9.out) (HX.out.below B9.out) LX.out (HW.out.below B9.out) LW.out).mono ?_
      rintro e w10 ⟨Ae, ke, ne, rfl, h1, h2, hb, h4, h5⟩
      have Me := Lib.hid h1; have Qe := Lib.hid h2
      clear h1 h2 h4 h5
      have B10 := Lib.hid (chain B9.out hb)
      have N10 := Lib.hid (N9.out.below hb)
      replace Qa := Lib.hid (Qa.out.below hb)
      replace Qb := Lib.hid (Qb.out.below hb)
      replace Qc := Lib.hid (Qc.out.below hb)
      replace Qd := Lib.hid (Qd.out.below hb)
      clear hb c0 c1 c2 c3 nl B9 N9
      obtain ⟨c0, c1, c2, c3⟩ := N10.out.cells
      have nl := N10.out.lt
      obtain rfl : na = 0 := by rw [Ma.out, EA.out]; rfl
      obtain rfl : nb = 0 := by rw [Mb.out, EB.out]; rfl
      go_wp2_with fail
      refine (CIN.out _ (HRL.out.below B10.out)).mono ?_
      rintro e w11 ⟨rfl, hb⟩
      have B11 := Lib.hid (chain B10.out hb)
      have N11 := Lib.hid (N10.out.below hb)
      replace Qa := Lib.hid (Qa.out.below hb)
      replace Qb := Lib.hid (Qb.out.below hb)
      replace Qc := Lib.hid (Qc.out.below hb)
      replace Qd := Lib.hid (Qd.out.below hb)
      replace Qe := Lib.hid (Qe.out.below hb)
      clear hb c0 c1 c2 c3 nl B10 N10
      obtain ⟨c0, c1, c2, c3⟩ := N11.out.cells
      have nl := N11.out.lt
      go_wp2_with fail
      go_ret
      exact ⟨rfl, B11.out⟩

end Go.Proofs.YtklgjhldebdegaaGreat

namespace Go.Proofs.YtklgjhldebdegaaGreat.evalLast
open Go.ChangeShapes Go.WideShapes Go.ChangeAt Go.RowKit

set_option maxRecDepth 100000 in
theorem lifted (os : Os) (started : os.Started) (H : Type) (enc : TypeId × Value → H) :
    ReturnsInHanded {} Tryz.checked os 8 .any (Rows.evalLastSpec.pre6 enc Tryz.prog Tryz.f8 Rows.evalLastRow.domain false) (Rows.evalLastSpec.post enc Tryz.prog Tryz.f8 false true false false) := by
  refine returnsInHanded_of_change (C := Tryz.checked) Tryz.own started (by kernel_rfl) Tryz.func8
    (ChangeSpec.witness6 (enc := enc) (C := Tryz.checked) false ⟨#[], #[.agg #[.int .i64 0, .int .i64 0, .int .i64 0, .slice none 0 0], .int .i64 0, .int .u64 0, .slice none 0 0, .slice none 0 0, .slice none 0 0], []⟩ 8 (by kernel_rfl) (by kernel_rfl) (by kernel_rfl) (by kernel_rfl)) ?_
  intro W base args ds gs before hval0 hW _ _
  have hval : ∀ (j : Nat) t v, Tryz.f8.params[j]? = some t → args[j]? = some v → Value.okWide Tryz.prog W .any base t v := hval0
  have hW' := hW
  obtain ⟨p, q, hA0, hV, rfl, hfz, hnd⟩ := hW
  have hA : DataW.TrodAll enc Tryz.prog W 0 (fun _ => true) true Tryz.f8.params.toList args.toList ds p := hA0
  rw [Tryz.params8] at hA hval
  obtain ⟨v0, vs0, d0, ds0, p0, q0, hargs, rfl, rfl, h0, r0⟩ := trodAll_cons hA
  obtain ⟨v1, vs1, d1, ds1, p1, q1, rfl, rfl, rfl, h1, r1⟩ := trodAll_cons r0
  obtain ⟨v2, vs2, d2, ds2, p2, q2, rfl, rfl, rfl, h2, r2⟩ := trodAll_cons r1
  obtain ⟨v3, vs3, d3, ds3, p3, q3, rfl, rfl, rfl, h3, r3⟩ := trodAll_cons r2
  obtain ⟨v4, vs4, d4, ds4, p4, q4, rfl, rfl, rfl, h4, r4⟩ := trodAll_cons r3
  obtain ⟨v5, vs5, d5, ds5, p5, q5, rfl, rfl, rfl, h5, r5⟩ := trodAll_cons r4
  obtain ⟨rfl, rfl, rfl⟩ := trodAll_nil r5
  obtain rfl : args = #[v0, v1, v2, v3, v4, v5] := by cases args; simp_all
  obtain ⟨rfl, rfl⟩ := trodVars_none hV
  have k0 := h0
  have lt0 : ∀ x ∈ p0, x.block < W.heap.size := by obtain ⟨m, hm⟩ := k0; exact DataW.trod_lt m _ _ _ hm
  obtain ⟨c0, y0, x0, A0, n0, cap0, l0, rfl, e0, w0, b0, m0⟩ := net_open (hval 0 26 v0 rfl rfl) h0
  obtain ⟨a1, rfl, rfl, rfl, w1⟩ := open_int Tryz.underlying3 (hval 1 3 v1 rfl rfl) h1
  obtain ⟨a2, rfl, rfl, rfl, w2⟩ := open_int Tryz.underlying27 (hval 2 27 v2 rfl rfl) h2
  obtain ⟨u2, e2⟩ := u64_of_wf w2
  subst e2
  obtain ⟨A3, n3, cap3, rfl⟩ := okWide_slice Tryz.underlying28 (hval 3 28 v3 rfl rfl)
  have k3 := h3
  have lt3 : ∀ x ∈ p3, x.block < W.heap.size := by obtain ⟨m, hm⟩ := k3; exact DataW.trod_lt m _ _ _ hm
  obtain ⟨u3, e3, w3, b3⟩ := ru_open h3
  obtain ⟨A4, n4, cap4, rfl⟩ := okWide_slice Tryz.underlying28 (hval 4 28 v4 rfl rfl)
  have k4 := h4
  have lt4 : ∀ x ∈ p4, x.block < W.heap.size := by obtain ⟨m, hm⟩ := k4; exact DataW.trod_lt m _ _ _ hm
  obtain ⟨u4, e4, w4, b4⟩ := ru_open h4
  obtain ⟨A5, n5, cap5, rfl⟩ := okWide_slice Tryz.underlying28 (hval 5 28 v5 rfl rfl)
  have k5 := h5
  have lt5 : ∀ x ∈ p5, x.block < W.heap.size := by obtain ⟨m, hm⟩ := k5; exact DataW.trod_lt m _ _ _ hm
  obtain ⟨u5, e5, w5, b5⟩ := ru_open h5
  clear hA0 hval0
  refine (law_elast c0 y0 x0 A0 cap0 n0 l0 a1 u2 A3 cap3 n3 u3 A4 cap4 n4 u4 A5 cap5 n5 u5 W w0 e0 w3 e3 w4 e4 w5 e5).mono fun e W' ⟨he, bel⟩ => ?_
  subst he
  exact ⟨_, rfl, _, _, _, [], _, [], hW', trodAll_mk1 (shut_bool Tryz.underlying4 _), (trodAll_cons_mk (Below.trod Tryz.laidOut (by kernel_rfl) (of_decide_eq_true (by kernel_rfl)) k0 bel lt0) (trodAll_cons_mk (shut_int Tryz.underlying3 w1) (trodAll_cons_mk (shut_int Tryz.underlying27 w2) (trodAll_cons_mk (Below.trod Tryz.laidOut (by kernel_rfl) (of_decide_eq_true (by kernel_rfl)) k3 bel lt3) (trodAll_cons_mk (Below.trod Tryz.laidOut (by kernel_rfl) (of_decide_eq_true (by kernel_rfl)) k4 bel lt4) (trodAll_cons_mk (Below.trod Tryz.laidOut (by kernel_rfl) (of_decide_eq_true (by kernel_rfl)) k5 bel lt5) trodAll_mk0)))))), rfl, bel.frame _, fun h => by cases h⟩

theorem proved : Rows.EvalLastSaid :=
  OpenClaim.holds_of_wide 8 Tryz.f8 rfl rfl rfl rfl rfl rfl rfl ⟨rfl, rfl, rfl, rfl, rfl⟩ rfl rfl rfl rfl rfl (by kernel_rfl) Tryz.func8 (by kernel_rfl)
    (of_decide_eq_true (by kernel_rfl)) (by unfold Func.isWrapper; first | (rw [if_pos (by decide +kernel)]; kernel_rfl) | (rw [if_neg (by decide +kernel)]; exact ⟨rfl, rfl⟩))
    (fun os started H enc _ => lifted os started H enc)

end Go.Proofs.YtklgjhldebdegaaGreat.evalLast

namespace Go.Proofs.YtklgjhldebdegaaGreat
theorem evalLast_proved : Rows.EvalLastSaid := evalLast.proved
#print axioms evalLast_proved
end Go.Proofs.YtklgjhldebdegaaGreat
