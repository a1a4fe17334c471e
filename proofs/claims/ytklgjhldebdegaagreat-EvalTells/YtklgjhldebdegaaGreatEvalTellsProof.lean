/-
  EvalTells, of any network, any party, any number of 64 bits, any stage and any three rows of numbers, returns true, and each argument reads afterwards as it read before; no condition.
-/
import Derived.Test.YtklgjhldebdegaaGreatB17
namespace Go.Proofs.YtklgjhldebdegaaGreat
open Go.RowKit

set_option maxHeartbeats 8000000 in
set_option maxRecDepth 100000 in
theorem law_etells (c h x : Int) (A : Option Addr) (cA n : Nat) (ls : List Ly) (a : Int) (z : UInt64) (s : Int) (X : Option Addr) (cX nx : Nat) (xs : List UInt64) (W : Option Addr) (cW nw : Nat) (ws : List UInt64) (T : Option Addr) (cT nt : Nat) (ts : List UInt64) (w : World) (hx : Rl w A ls) (ln : n = ls.length) (hX : Rg ucells w X xs) (lX : nx = xs.length) (hW : Rg ucells w W ws) (lW : nw = ws.length) (hT : Rg ucells w T ts) (lT : nt = ts.length) :
    Calls Tryz.prog 3 #[.agg #[.int .i64 c, .int .i64 h, .int .i64 x, .slice A n cA], .int .i64 a, .int .u64 (uz z), .int .i64 s, .slice X nx cX, .slice W nw cW, .slice T nt cT] w fun e w' => e = .returned (.bool true) ∧ Below w.heap.size w w' := by
  have HRL := Lib.hid hx; have LRL := Lib.hid ln
  have HX := Lib.hid hX; have LX := Lib.hid lX
  have HW := Lib.hid hW; have LW := Lib.hid lW
  have HT := Lib.hid hT; have LT := Lib.hid lT
  clear hx ln hX lX hW lW hT lT
  by_cases hg : 60 < n ∨ 3000 < nx ∨ 3000 < nw ∨ 3000 < nt
  · have hgr : (anyB [⟨X, nx, cX⟩, ⟨W, nw, cW⟩, ⟨T, nt, cT⟩] || decide (60 < (n : Int))) = true := by unfold anyB; simp; omega
    go_enter Tryz.func3, Tryz.ntmps3
    go_wp2_with fail
    refine (head13_any _).mono ?_
    rintro e w1 ⟨rfl, hb⟩
    have B1 := Lib.hid (chain ((Below.refl w.heap.size w).alloc (Nat.le_refl _) _) hb)
    have N1 := Lib.hid ((NB.new w c h x (.slice A n cA)).below hb)
    clear hb
    obtain ⟨c0, c1, c2, c3⟩ := N1.out.cells
    have nl := N1.out.lt
    go_wp2_with fail
    refine (great13 c h x A cA n _ 3 _ [⟨X, nx, cX⟩, ⟨W, nw, cW⟩, ⟨T, nt, cT⟩] _ true hgr (rg_block (heap_alloc_new _ _) rfl) rfl (by decide)).mono ?_
    rintro e w2 ⟨rfl, hb⟩
    replace hb := ((Below.refl w1.heap.size w1).alloc (Nat.le_refl _) _).trans (hb.mono (by simp))
    have B2 := Lib.hid (chain B1.out hb)
    have N2 := Lib.hid (N1.out.below hb)
    clear hb c0 c1 c2 c3 nl B1 N1
    obtain ⟨c0, c1, c2, c3⟩ := N2.out.cells
    have nl := N2.out.lt
    go_wp2_with fail
    go_ret
    exact ⟨rfl, B2.out⟩
  have hgr : (anyB [⟨X, nx, cX⟩, ⟨W, nw, cW⟩, ⟨T, nt, cT⟩] || decide (60 < (n : Int))) = false := by unfold anyB; simp; omega
  have hn60 : n ≤ 60 := by omega
  have hn1 : n ≤ 1000 := by omega
  have bX : nx ≤ 3000 := by omega
  have bW : nw ≤ 3000 := by omega
  have bT : nt ≤ 3000 := by omega
  clear hg
  obtain ⟨fs, hfs⟩ : ∃ q, q = firstU ⟨c, h, x, ls⟩ xs := ⟨_, rfl⟩
  obtain ⟨bf, hbf⟩ : ∃ q, q = okFi ⟨c, h, x, ls⟩ xs := ⟨_, rfl⟩
  have Hfs := Lib.hid hfs; have Hbf := Lib.hid hbf
  obtain ⟨us, hus⟩ : ∃ q, q = lineU ⟨c, h, x, ls⟩ a z s xs ws := ⟨_, rfl⟩
  obtain ⟨bl, hbl⟩ : ∃ q, q = okLn ⟨c, h, x, ls⟩ s xs ws := ⟨_, rfl⟩
  have Hus := Lib.hid hus; have Hbl := Lib.hid hbl
  obtain ⟨vs, hvs⟩ : ∃ q, q = nextU ⟨c, h, x, ls⟩ a z s us ts := ⟨_, rfl⟩
  obtain ⟨bn, hbn⟩ : ∃ q, q = okNx ⟨c, h, x, ls⟩ s us ts := ⟨_, rfl⟩
  have Hvs := Lib.hid hvs; have Hbn := Lib.hid hbn
  have CF : Hid (∀ (X : Option Addr) (cX nx : Nat) (w' : World), Rl w' A ls → Rg ucells w' X xs → nx = (xs).length → Calls Tryz.prog 11 #[.agg #[.int .i64 c, .int .i64 h, .int .i64 x, .slice A n cA], .slice X nx cX] w' (PairTo fs bf w')) := fun X cX nx w' z0 z1 z2 => by rw [hfs, hbf]; exact first13 c h x A X cA n cX nx ls xs w' z0 LRL.out hn60 z1 z2
  have CG : Hid (∀ (X : Option Addr) (cX nx : Nat) (w' : World), Rl w' A ls → Rg ucells w' X xs → nx = (xs).length → Calls Tryz.prog 12 #[.agg #[.int .i64 c, .int .i64 h, .int .i64 x, .slice A n cA], .slice X nx cX] w' (PairTo fs bf w')) := fun X cX nx w' z0 z1 z2 => by rw [hfs, hbf]; exact rfirst13 c h x A X cA n cX nx ls xs w' z0 LRL.out hn60 z1 z2
  have CL : Hid (∀ (X : Option Addr) (cX nx : Nat) (Y : Option Addr) (cY ny : Nat) (w' : World), Rl w' A ls → Rg ucells w' X xs → nx = (xs).length → Rg ucells w' Y ws → ny = (ws).length → Calls Tryz.prog 13 #[.agg #[.int .i64 c, .int .i64 h, .int .i64 x, .slice A n cA], .int .i64 a, .int .u64 (uz z), .int .i64 s, .slice X nx cX, .slice Y ny cY] w' (PairTo us bl w')) := fun X cX nx Y cY ny w' z0 z1 z2 z3 z4 => by rw [hus, hbl]; exact line13 c h x A X Y cA n cX nx cY ny ls xs ws a z s w' z0 LRL.out hn60 z1 z2 z3 z4
  have CM : Hid (∀ (X : Option Addr) (cX nx : Nat) (Y : Option Addr) (cY ny : Nat) (w' : World), Rl w' A ls → Rg ucells w' X xs → nx = (xs).length → Rg ucells w' Y ws → ny = (ws).length → Calls Tryz.prog 14 #[.agg #[.int .i64 c, .int .i64 h, .int .i64 x, .slice A n cA], .int .i64 a, .int .u64 (uz z), .int .i64 s, .slice X nx cX, .slice Y ny cY] w' (PairTo us bl w')) := fun X cX nx Y cY ny w' z0 z1 z2 z3 z4 => by rw [hus, hbl]; exact rline13 c h x A X Y cA n cX nx cY ny ls xs ws a z s w' z0 LRL.out hn60 z1 z2 z3 z4
  have CN : Hid (∀ (X : Option Addr) (cX nx : Nat) (Y : Option Addr) (cY ny : Nat) (w' : World), Rl w' A ls → Rg ucells w' X us → nx = (us).length → Rg ucells w' Y ts → ny = (ts).length → Calls Tryz.prog 15 #[.agg #[.int .i64 c, .int .i64 h, .int .i64 x, .slice A n cA], .int .i64 a, .int .u64 (uz z), .int .i64 s, .slice X nx cX, .slice Y ny cY] w' (PairTo vs bn w')) := fun X cX nx Y cY ny w' z0 z1 z2 z3 z4 => by rw [hvs, hbn]; exact next13 c h x A X Y cA n cX nx cY ny ls us ts a z s w' z0 LRL.out hn60 z1 z2 z3 z4
  have CO : Hid (∀ (X : Option Addr) (cX nx : Nat) (Y : Option Addr) (cY ny : Nat) (w' : World), Rl w' A ls → Rg ucells w' X us → nx = (us).length → Rg ucells w' Y ts → ny = (ts).length → Calls Tryz.prog 16 #[.agg #[.int .i64 c, .int .i64 h, .int .i64 x, .slice A n cA], .int .i64 a, .int .u64 (uz z), .int .i64 s, .slice X nx cX, .slice Y ny cY] w' (PairTo vs bn w')) := fun X cX nx Y cY ny w' z0 z1 z2 z3 z4 => by rw [hvs, hbn]; exact rnext13 c h x A X Y cA n cX nx cY ny ls us ts a z s w' z0 LRL.out hn60 z1 z2 z3 z4
  have b1 : fs.length ≤ 1000000 := by rw [hfs]; have := first_bd ⟨c, h, x, ls⟩ xs; omega
  have b2 : us.length ≤ 1000000 := by rw [hus]; have := line_bd ⟨c, h, x, ls⟩ a z s xs ws; have := LX.out; omega
  have b3 : vs.length ≤ 1000000 := by rw [hvs]; have := next_bd ⟨c, h, x, ls⟩ a z s us ts; omega
  have D1 := Lib.hid b1; have D2 := Lib.hid b2; have D3 := Lib.hid b3
  clear hfs hbf hus hbl hvs hbn b1 b2 b3
  go_enter Tryz.func3, Tryz.ntmps3
  go_wp2_with fail
  refine (head13_any _).mono ?_
  rintro e w1 ⟨rfl, hb⟩
  have B1 := Lib.hid (chain ((Below.refl w.heap.size w).alloc (Nat.le_refl _) _) hb)
  have N1 := Lib.hid ((NB.new w c h x (.slice A n cA)).below hb)
  clear hb
  obtain ⟨c0, c1, c2, c3⟩ := N1.out.cells
  have nl := N1.out.lt
  go_wp2_with fail
  refine (great13 c h x A cA n _ 3 _ [⟨X, nx, cX⟩, ⟨W, nw, cW⟩, ⟨T, nt, cT⟩] _ false hgr (rg_block (heap_alloc_new _ _) rfl) rfl (by decide)).mono ?_
  rintro e w2 ⟨rfl, hb⟩
  replace hb := ((Below.refl w1.heap.size w1).alloc (Nat.le_refl _) _).trans (hb.mono (by simp))
  have B2 := Lib.hid (chain B1.out hb)
  have N2 := Lib.hid (N1.out.below hb)
  clear hb c0 c1 c2 c3 nl B1 N1
  obtain ⟨c0, c1, c2, c3⟩ := N2.out.cells
  have nl := N2.out.lt
  go_wp2_with fail
  refine (CF.out X cX nx _ (HRL.out.below B2.out) (HX.out.below B2.out) LX.out).mono ?_
  rintro e w3 ⟨Aa, ka, na, rfl, h1, h2, hb, h4, h5⟩
  have Ma := Lib.hid h1; have Qa := Lib.hid h2
  clear h1 h2 h4 h5
  have B3 := Lib.hid (chain B2.out hb)
  have N3 := Lib.hid (N2.out.below hb)
  clear hb c0 c1 c2 c3 nl B2 N2
  obtain ⟨c0, c1, c2, c3⟩ := N3.out.cells
  have nl := N3.out.lt
  go_wp2_with fail
  refine (CG.out X cX nx _ (HRL.out.below B3.out) (HX.out.below B3.out) LX.out).mono ?_
  rintro e w4 ⟨Ab, kb, nb, rfl, h1, h2, hb, h4, h5⟩
  have Mb := Lib.hid h1; have Qb := Lib.hid h2
  clear h1 h2 h4 h5
  have B4 := Lib.hid (chain B3.out hb)
  have N4 := Lib.hid (N3.out.below hb)
  replace Qa := Lib.hid (Qa.out.below hb)
  clear hb c0 c1 c2 c3 nl B3 N3
  obtain ⟨c0, c1, c2, c3⟩ := N4.out.cells
  have nl := N4.out.lt
  go_wp2_with fail
  refine (CL.out X cX nx W cW nw _ (HRL.out.below B4.out) (HX.out.below B4.out) LX.out (HW.out.below B4.out) LW.out).mono ?_
  rintro e w5 ⟨Ac, kc, nc, rfl, h1, h2, hb, h4, h5⟩
  have Mc := Lib.hid h1; have Qc := Lib.hid h2
  clear h1 h2 h4 h5
  have B5 := Lib.hid (chain B4.out hb)
  have N5 := Lib.hid (N4.out.below hb)
  replace Qa := Lib.hid (Qa.out.below hb)
  replace Qb := Lib.hid (Qb.out.below hb)
  clear hb c0 c1 c2 c3 nl B4 N4
  obtain ⟨c0, c1, c2, c3⟩ := N5.out.cells
  have nl := N5.out.lt
  go_wp2_with fail
  refine (CM.out X cX nx W cW nw _ (HRL.out.below B5.out) (HX.out.below B5.out) LX.out (HW.out.below B5.out) LW.out).mono ?_
  rintro e w6 ⟨Ad, kd, nd, rfl, h1, h2, hb, h4, h5⟩
  have Md := Lib.hid h1; have Qd := Lib.hid h2
  clear h1 h2 h4 h5
  have B6 := Lib.hid (chain B5.out hb)
  have N6 := Lib.hid (N5.out.below hb)
  replace Qa := Lib.hid (Qa.out.below hb)
  replace Qb := Lib.hid (Qb.out.below hb)
  replace Qc := Lib.hid (Qc.out.below hb)
  clear hb c0 c1 c2 c3 nl B5 N5
  obtain ⟨c0, c1, c2, c3⟩ := N6.out.cells
  have nl := N6.out.lt
  go_wp2_with fail
  refine (CN.out Ac kc nc T cT nt _ (HRL.out.below B6.out) Qc.out Mc.out (HT.out.below B6.out) LT.out).mono ?_
  rintro e w7 ⟨Ae, ke, ne, rfl, h1, h2, hb, h4, h5⟩
  have Me := Lib.hid h1; have Qe := Lib.hid h2
  clear h1 h2 h4 h5
  have B7 := Lib.hid (chain B6.out hb)
  have N7 := Lib.hid (N6.out.below hb)
  replace Qa := Lib.hid (Qa.out.below hb)
  replace Qb := Lib.hid (Qb.out.below hb)
  replace Qc := Lib.hid (Qc.out.below hb)
  replace Qd := Lib.hid (Qd.out.below hb)
  clear hb c0 c1 c2 c3 nl B6 N6
  obtain ⟨c0, c1, c2, c3⟩ := N7.out.cells
  have nl := N7.out.lt
  go_wp2_with fail
  refine (CO.out Ad kd nd T cT nt _ (HRL.out.below B7.out) Qd.out Md.out (HT.out.below B7.out) LT.out).mono ?_
  rintro e w8 ⟨Af, kf, nf, rfl, h1, h2, hb, h4, h5⟩
  have Mf := Lib.hid h1; have Qf := Lib.hid h2
  clear h1 h2 h4 h5
  have B8 := Lib.hid (chain B7.out hb)
  have N8 := Lib.hid (N7.out.below hb)
  replace Qa := Lib.hid (Qa.out.below hb)
  replace Qb := Lib.hid (Qb.out.below hb)
  replace Qc := Lib.hid (Qc.out.below hb)
  replace Qd := Lib.hid (Qd.out.below hb)
  replace Qe := Lib.hid (Qe.out.below hb)
  clear hb c0 c1 c2 c3 nl B7 N7
  obtain ⟨c0, c1, c2, c3⟩ := N8.out.cells
  have nl := N8.out.lt
  go_wp2_with fail
  refine (ssame Aa Ab ka kb na nb (fs) (fs) _ Qa.out Qb.out Ma.out Mb.out (by rw [Ma.out]; exact D1.out) (rfl)).mono ?_
  rintro e w9 ⟨rfl, hb⟩
  have B9 := Lib.hid (chain B8.out hb)
  have N9 := Lib.hid (N8.out.below hb)
  replace Qa := Lib.hid (Qa.out.below hb)
  replace Qb := Lib.hid (Qb.out.below hb)
  replace Qc := Lib.hid (Qc.out.below hb)
  replace Qd := Lib.hid (Qd.out.below hb)
  replace Qe := Lib.hid (Qe.out.below hb)
  replace Qf := Lib.hid (Qf.out.below hb)
  clear hb c0 c1 c2 c3 nl B8 N8
  obtain ⟨c0, c1, c2, c3⟩ := N9.out.cells
  have nl := N9.out.lt
  go_wp2_with fail
  refine (ssame Ac Ad kc kd nc nd (us) (us) _ Qc.out Qd.out Mc.out Md.out (by rw [Mc.out]; exact D2.out) (rfl)).mono ?_
  rintro e w10 ⟨rfl, hb⟩
  have B10 := Lib.hid (chain B9.out hb)
  have N10 := Lib.hid (N9.out.below hb)
  replace Qa := Lib.hid (Qa.out.below hb)
  replace Qb := Lib.hid (Qb.out.below hb)
  replace Qc := Lib.hid (Qc.out.below hb)
  replace Qd := Lib.hid (Qd.out.below hb)
  replace Qe := Lib.hid (Qe.out.below hb)
  replace Qf := Lib.hid (Qf.out.below hb)
  clear hb c0 c1 c2 c3 nl B9 N9
  obtain ⟨c0, c1, c2, c3⟩ := N10.out.cells
  have nl := N10.out.lt
  go_wp2_with fail
  refine (ssame Ae Af ke kf ne nf (vs) (vs) _ Qe.out Qf.out Me.out Mf.out (by rw [Me.out]; exact D3.out) (rfl)).mono ?_
  rintro e w11 ⟨rfl, hb⟩
  have B11 := Lib.hid (chain B10.out hb)
  have N11 := Lib.hid (N10.out.below hb)
  replace Qa := Lib.hid (Qa.out.below hb)
  replace Qb := Lib.hid (Qb.out.below hb)
  replace Qc := Lib.hid (Qc.out.below hb)
  replace Qd := Lib.hid (Qd.out.below hb)
  replace Qe := Lib.hid (Qe.out.below hb)
  replace Qf := Lib.hid (Qf.out.below hb)
  clear hb c0 c1 c2 c3 nl B10 N10
  obtain ⟨c0, c1, c2, c3⟩ := N11.out.cells
  have nl := N11.out.lt
  go_wp2_with fail
  go_ret
  exact ⟨rfl, B11.out⟩

end Go.Proofs.YtklgjhldebdegaaGreat

namespace Go.Proofs.YtklgjhldebdegaaGreat.evalTells
open Go.ChangeShapes Go.WideShapes Go.ChangeAt Go.RowKit

set_option maxRecDepth 100000 in
theorem lifted (os : Os) (started : os.Started) (H : Type) (enc : TypeId × Value → H) :
    ReturnsInHanded {} Tryz.checked os 3 .any (Rows.evalTellsSpec.pre6 enc Tryz.prog Tryz.f3 Rows.evalTellsRow.domain false) (Rows.evalTellsSpec.post enc Tryz.prog Tryz.f3 false true false false) := by
  refine returnsInHanded_of_change (C := Tryz.checked) Tryz.own started (by kernel_rfl) Tryz.func3
    (ChangeSpec.witness6 (enc := enc) (C := Tryz.checked) false ⟨#[], #[.agg #[.int .i64 0, .int .i64 0, .int .i64 0, .slice none 0 0], .int .i64 0, .int .u64 0, .int .i64 0, .slice none 0 0, .slice none 0 0, .slice none 0 0], []⟩ 8 (by kernel_rfl) (by kernel_rfl) (by kernel_rfl) (by kernel_rfl)) ?_
  intro W base args ds gs before hval0 hW _ _
  have hval : ∀ (j : Nat) t v, Tryz.f3.params[j]? = some t → args[j]? = some v → Value.okWide Tryz.prog W .any base t v := hval0
  have hW' := hW
  obtain ⟨p, q, hA0, hV, rfl, hfz, hnd⟩ := hW
  have hA : DataW.TrodAll enc Tryz.prog W 0 (fun _ => true) true Tryz.f3.params.toList args.toList ds p := hA0
  rw [Tryz.params3] at hA hval
  obtain ⟨v0, vs0, d0, ds0, p0, q0, hargs, rfl, rfl, h0, r0⟩ := trodAll_cons hA
  obtain ⟨v1, vs1, d1, ds1, p1, q1, rfl, rfl, rfl, h1, r1⟩ := trodAll_cons r0
  obtain ⟨v2, vs2, d2, ds2, p2, q2, rfl, rfl, rfl, h2, r2⟩ := trodAll_cons r1
  obtain ⟨v3, vs3, d3, ds3, p3, q3, rfl, rfl, rfl, h3, r3⟩ := trodAll_cons r2
  obtain ⟨v4, vs4, d4, ds4, p4, q4, rfl, rfl, rfl, h4, r4⟩ := trodAll_cons r3
  obtain ⟨v5, vs5, d5, ds5, p5, q5, rfl, rfl, rfl, h5, r5⟩ := trodAll_cons r4
  obtain ⟨v6, vs6, d6, ds6, p6, q6, rfl, rfl, rfl, h6, r6⟩ := trodAll_cons r5
  obtain ⟨rfl, rfl, rfl⟩ := trodAll_nil r6
  obtain rfl : args = #[v0, v1, v2, v3, v4, v5, v6] := by cases args; simp_all
  obtain ⟨rfl, rfl⟩ := trodVars_none hV
  have k0 := h0
  have lt0 : ∀ x ∈ p0, x.block < W.heap.size := by obtain ⟨m, hm⟩ := k0; exact DataW.trod_lt m _ _ _ hm
  obtain ⟨c0, y0, x0, A0, n0, cap0, l0, rfl, e0, w0, b0, m0⟩ := net_open (hval 0 26 v0 rfl rfl) h0
  obtain ⟨a1, rfl, rfl, rfl, w1⟩ := open_int Tryz.underlying3 (hval 1 3 v1 rfl rfl) h1
  obtain ⟨a2, rfl, rfl, rfl, w2⟩ := open_int Tryz.underlying27 (hval 2 27 v2 rfl rfl) h2
  obtain ⟨u2, e2⟩ := u64_of_wf w2
  subst e2
  obtain ⟨a3, rfl, rfl, rfl, w3⟩ := open_int Tryz.underlying3 (hval 3 3 v3 rfl rfl) h3
  obtain ⟨A4, n4, cap4, rfl⟩ := okWide_slice Tryz.underlying28 (hval 4 28 v4 rfl rfl)
  have k4 := h4
  have lt4 : ∀ x ∈ p4, x.block < W.heap.size := by obtain ⟨m, hm⟩ := k4; exact DataW.trod_lt m _ _ _ hm
  obtain ⟨u4, e4, w4, b4⟩ := ru_open h4
  obtain ⟨A5, n5, cap5, rfl⟩ := okWide_slice Tryz.underlying28 (hval 5 28 v5 rfl rfl)
  have k5 := h5
  have lt5 : ∀ x ∈ p5, x.block < W.heap.size := by obtain ⟨m, hm⟩ := k5; exact DataW.trod_lt m _ _ _ hm
  obtain ⟨u5, e5, w5, b5⟩ := ru_open h5
  obtain ⟨A6, n6, cap6, rfl⟩ := okWide_slice Tryz.underlying28 (hval 6 28 v6 rfl rfl)
  have k6 := h6
  have lt6 : ∀ x ∈ p6, x.block < W.heap.size := by obtain ⟨m, hm⟩ := k6; exact DataW.trod_lt m _ _ _ hm
  obtain ⟨u6, e6, w6, b6⟩ := ru_open h6
  clear hA0 hval0
  refine (law_etells c0 y0 x0 A0 cap0 n0 l0 a1 u2 a3 A4 cap4 n4 u4 A5 cap5 n5 u5 A6 cap6 n6 u6 W w0 e0 w4 e4 w5 e5 w6 e6).mono fun e W' ⟨he, bel⟩ => ?_
  subst he
  exact ⟨_, rfl, _, _, _, [], _, [], hW', trodAll_mk1 (shut_bool Tryz.underlying4 _), (trodAll_cons_mk (Below.trod Tryz.laidOut (by kernel_rfl) (of_decide_eq_true (by kernel_rfl)) k0 bel lt0) (trodAll_cons_mk (shut_int Tryz.underlying3 w1) (trodAll_cons_mk (shut_int Tryz.underlying27 w2) (trodAll_cons_mk (shut_int Tryz.underlying3 w3) (trodAll_cons_mk (Below.trod Tryz.laidOut (by kernel_rfl) (of_decide_eq_true (by kernel_rfl)) k4 bel lt4) (trodAll_cons_mk (Below.trod Tryz.laidOut (by kernel_rfl) (of_decide_eq_true (by kernel_rfl)) k5 bel lt5) (trodAll_cons_mk (Below.trod Tryz.laidOut (by kernel_rfl) (of_decide_eq_true (by kernel_rfl)) k6 bel lt6) trodAll_mk0))))))), rfl, bel.frame _, fun h => by cases h⟩

theorem proved : Rows.EvalTellsSaid :=
  OpenClaim.holds_of_wide 3 Tryz.f3 rfl rfl rfl rfl rfl rfl rfl ⟨rfl, rfl, rfl, rfl, rfl⟩ rfl rfl rfl rfl rfl (by kernel_rfl) Tryz.func3 (by kernel_rfl)
    (of_decide_eq_true (by kernel_rfl)) (by unfold Func.isWrapper; first | (rw [if_pos (by decide +kernel)]; kernel_rfl) | (rw [if_neg (by decide +kernel)]; exact ⟨rfl, rfl⟩))
    (fun os started H enc _ => lifted os started H enc)

end Go.Proofs.YtklgjhldebdegaaGreat.evalTells

namespace Go.Proofs.YtklgjhldebdegaaGreat
theorem evalTells_proved : Rows.EvalTellsSaid := evalTells.proved
#print axioms evalTells_proved
end Go.Proofs.YtklgjhldebdegaaGreat
