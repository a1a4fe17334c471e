/-
  EvalWhole, of any network, any number of 64 bits and any four rows of numbers, returns true, and each argument reads afterwards as it read before; no condition.
-/
import Derived.Test.YtklgjhldebdegaaGreatB17
import Derived.Deep.RegionHeld3
namespace Go.Proofs.YtklgjhldebdegaaGreat
open Go.RowKit

set_option maxHeartbeats 8000000 in
set_option maxRecDepth 100000 in
theorem law_ewhole (c h x : Int) (A : Option Addr) (cA n : Nat) (ls : List Ly) (z : UInt64) (X : Option Addr) (cX nx : Nat) (xs : List UInt64) (U : Option Addr) (cU nu : Nat) (us : List UInt64) (W : Option Addr) (cW nw : Nat) (ws : List UInt64) (V : Option Addr) (cV nv : Nat) (vs : List UInt64) (w : World) (hx : Rl w A ls) (ln : n = ls.length) (hX : Rg ucells w X xs) (lX : nx = xs.length) (hU : Rg ucells w U us) (lU : nu = us.length) (hW : Rg ucells w W ws) (lW : nw = ws.length) (hV : Rg ucells w V vs) (lV : nv = vs.length) :
    Calls Tryz.prog 5 #[.agg #[.int .i64 c, .int .i64 h, .int .i64 x, .slice A n cA], .int .u64 (uz z), .slice X nx cX, .slice U nu cU, .slice W nw cW, .slice V nv cV] w fun e w' => e = .returned (.bool true) ∧ Below w.heap.size w w' := by
  have HRL := Lib.hid hx; have LRL := Lib.hid ln
  have HX := Lib.hid hX; have LX := Lib.hid lX
  have HU := Lib.hid hU; have LU := Lib.hid lU
  have HW := Lib.hid hW; have LW := Lib.hid lW
  have HV := Lib.hid hV; have LV := Lib.hid lV
  clear hx ln hX lX hU lU hW lW hV lV
  obtain ⟨er, her⟩ : ∃ er, er = errN ⟨c, h, x, ls⟩ := ⟨_, rfl⟩
  have HER := Lib.hid her
  obtain ⟨tw, htw⟩ : ∃ tw, tw = totW (knN ⟨c, h, x, ls⟩) := ⟨_, rfl⟩
  have HTW := Lib.hid htw
  clear her htw
  by_cases hg : 60 < n ∨ 3000 < nx ∨ 3000 < nu ∨ 3000 < nw ∨ 3000 < nv
  · have hgr : (anyB [⟨X, nx, cX⟩, ⟨U, nu, cU⟩, ⟨W, nw, cW⟩, ⟨V, nv, cV⟩] || decide (60 < (n : Int))) = true := by unfold anyB; simp; omega
    go_enter Tryz.func5, Tryz.ntmps5
    go_wp2_with fail
    refine (head13_any _).mono ?_
    rintro e w1 ⟨rfl, hb⟩
    have B1 := Lib.hid (chain ((Below.refl w.heap.size w).alloc (Nat.le_refl _) _) hb)
    have N1 := Lib.hid ((NB.new w c h x (.slice A n cA)).below hb)
    clear hb
    obtain ⟨c0, c1, c2, c3⟩ := N1.out.cells
    have nl := N1.out.lt
    go_wp2_with fail
    refine (rall_any c h x A cA n ls _ (HRL.out.below B1.out) LRL.out).mono ?_
    rintro e w2 ⟨rfl, hb⟩
    rw [← HTW.out]
    have B2 := Lib.hid (chain B1.out hb)
    have N2 := Lib.hid (N1.out.below hb)
    clear hb c0 c1 c2 c3 nl B1 N1
    obtain ⟨c0, c1, c2, c3⟩ := N2.out.cells
    have nl := N2.out.lt
    go_wp2_with fail
    refine (great13 c h x A cA n _ 4 _ [⟨X, nx, cX⟩, ⟨U, nu, cU⟩, ⟨W, nw, cW⟩, ⟨V, nv, cV⟩] _ true hgr (rg_block (heap_alloc_new _ _) rfl) rfl (by decide)).mono ?_
    rintro e w3 ⟨rfl, hb⟩
    replace hb := ((Below.refl w2.heap.size w2).alloc (Nat.le_refl _) _).trans (hb.mono (by simp))
    have B3 := Lib.hid (chain B2.out hb)
    have N3 := Lib.hid (N2.out.below hb)
    clear hb c0 c1 c2 c3 nl B2 N2
    obtain ⟨c0, c1, c2, c3⟩ := N3.out.cells
    have nl := N3.out.lt
    go_wp2_with fail
    go_ret
    exact ⟨rfl, B3.out⟩
  have hgr : (anyB [⟨X, nx, cX⟩, ⟨U, nu, cU⟩, ⟨W, nw, cW⟩, ⟨V, nv, cV⟩] || decide (60 < (n : Int))) = false := by unfold anyB; simp; omega
  have hn60 : n ≤ 60 := by omega
  have hn1 : n ≤ 1000 := by omega
  have bX : nx ≤ 3000 := by omega
  have bU : nu ≤ 3000 := by omega
  have bW : nw ≤ 3000 := by omega
  have bV : nv ≤ 3000 := by omega
  clear hg
  by_cases h0 : ¬ er = 0
  · skip
    have b0 : (er == 0) = false := by simpa using h0
    clear h0
    go_enter Tryz.func5, Tryz.ntmps5
    go_wp2_with fail
    refine (head13_any _).mono ?_
    rintro e w1 ⟨rfl, hb⟩
    have B1 := Lib.hid (chain ((Below.refl w.heap.size w).alloc (Nat.le_refl _) _) hb)
    have N1 := Lib.hid ((NB.new w c h x (.slice A n cA)).below hb)
    clear hb
    obtain ⟨c0, c1, c2, c3⟩ := N1.out.cells
    have nl := N1.out.lt
    go_wp2_with fail
    refine (rall_any c h x A cA n ls _ (HRL.out.below B1.out) LRL.out).mono ?_
    rintro e w2 ⟨rfl, hb⟩
    rw [← HTW.out]
    have B2 := Lib.hid (chain B1.out hb)
    have N2 := Lib.hid (N1.out.below hb)
    clear hb c0 c1 c2 c3 nl B1 N1
    obtain ⟨c0, c1, c2, c3⟩ := N2.out.cells
    have nl := N2.out.lt
    go_wp2_with fail
    refine (great13 c h x A cA n _ 4 _ [⟨X, nx, cX⟩, ⟨U, nu, cU⟩, ⟨W, nw, cW⟩, ⟨V, nv, cV⟩] _ false hgr (rg_block (heap_alloc_new _ _) rfl) rfl (by decide)).mono ?_
    rintro e w3 ⟨rfl, hb⟩
    replace hb := ((Below.refl w2.heap.size w2).alloc (Nat.le_refl _) _).trans (hb.mono (by simp))
    have B3 := Lib.hid (chain B2.out hb)
    have N3 := Lib.hid (N2.out.below hb)
    clear hb c0 c1 c2 c3 nl B2 N2
    obtain ⟨c0, c1, c2, c3⟩ := N3.out.cells
    have nl := N3.out.lt
    go_wp2_with fail
    refine (rright_of c h x A cA n ls _ (HRL.out.below B3.out) LRL.out hn1).mono ?_
    rintro e w4 ⟨rfl, hb⟩
    rw [← HER.out]
    have B4 := Lib.hid (chain B3.out hb)
    have N4 := Lib.hid (N3.out.below hb)
    clear hb c0 c1 c2 c3 nl B3 N3
    obtain ⟨c0, c1, c2, c3⟩ := N4.out.cells
    have nl := N4.out.lt
    go_wp2_with fail
    go_ret
    exact ⟨rfl, B4.out⟩
  have h0 : er = 0 := by omega
  have b0 : (er == 0) = true := by rw [h0]; rfl
  have he : errN ⟨c, h, x, ls⟩ = 0 := HER.out.symm.trans h0
  have HE := Lib.hid he
  clear h0
  by_cases gW : ¬ (nw : Int) = tw
  · skip
    have dW : ((nw : Int) != tw) = true := by simpa using gW
    clear gW he
    go_enter Tryz.func5, Tryz.ntmps5
    go_wp2_with fail
    refine (head13_any _).mono ?_
    rintro e w1 ⟨rfl, hb⟩
    have B1 := Lib.hid (chain ((Below.refl w.heap.size w).alloc (Nat.le_refl _) _) hb)
    have N1 := Lib.hid ((NB.new w c h x (.slice A n cA)).below hb)
    clear hb
    obtain ⟨c0, c1, c2, c3⟩ := N1.out.cells
    have nl := N1.out.lt
    go_wp2_with fail
    refine (rall_any c h x A cA n ls _ (HRL.out.below B1.out) LRL.out).mono ?_
    rintro e w2 ⟨rfl, hb⟩
    rw [← HTW.out]
    have B2 := Lib.hid (chain B1.out hb)
    have N2 := Lib.hid (N1.out.below hb)
    clear hb c0 c1 c2 c3 nl B1 N1
    obtain ⟨c0, c1, c2, c3⟩ := N2.out.cells
    have nl := N2.out.lt
    go_wp2_with fail
    refine (great13 c h x A cA n _ 4 _ [⟨X, nx, cX⟩, ⟨U, nu, cU⟩, ⟨W, nw, cW⟩, ⟨V, nv, cV⟩] _ false hgr (rg_block (heap_alloc_new _ _) rfl) rfl (by decide)).mono ?_
    rintro e w3 ⟨rfl, hb⟩
    replace hb := ((Below.refl w2.heap.size w2).alloc (Nat.le_refl _) _).trans (hb.mono (by simp))
    have B3 := Lib.hid (chain B2.out hb)
    have N3 := Lib.hid (N2.out.below hb)
    clear hb c0 c1 c2 c3 nl B2 N2
    obtain ⟨c0, c1, c2, c3⟩ := N3.out.cells
    have nl := N3.out.lt
    go_wp2_with fail
    refine (rright_of c h x A cA n ls _ (HRL.out.below B3.out) LRL.out hn1).mono ?_
    rintro e w4 ⟨rfl, hb⟩
    rw [← HER.out]
    have B4 := Lib.hid (chain B3.out hb)
    have N4 := Lib.hid (N3.out.below hb)
    clear hb c0 c1 c2 c3 nl B3 N3
    obtain ⟨c0, c1, c2, c3⟩ := N4.out.cells
    have nl := N4.out.lt
    go_wp2_with fail
    go_ret
    exact ⟨rfl, B4.out⟩
  have gW : (nw : Int) = tw := Decidable.not_not.1 gW
  have dW : ((nw : Int) != tw) = false := by simp [gW]
  have GW := Lib.hid gW
  clear gW
  by_cases gV : ¬ (nv : Int) = tw
  · skip
    have dV : ((nv : Int) != tw) = true := by simpa using gV
    clear gV he
    go_enter Tryz.func5, Tryz.ntmps5
    go_wp2_with fail
    refine (head13_any _).mono ?_
    rintro e w1 ⟨rfl, hb⟩
    have B1 := Lib.hid (chain ((Below.refl w.heap.size w).alloc (Nat.le_refl _) _) hb)
    have N1 := Lib.hid ((NB.new w c h x (.slice A n cA)).below hb)
    clear hb
    obtain ⟨c0, c1, c2, c3⟩ := N1.out.cells
    have nl := N1.out.lt
    go_wp2_with fail
    refine (rall_any c h x A cA n ls _ (HRL.out.below B1.out) LRL.out).mono ?_
    rintro e w2 ⟨rfl, hb⟩
    rw [← HTW.out]
    have B2 := Lib.hid (chain B1.out hb)
    have N2 := Lib.hid (N1.out.below hb)
    clear hb c0 c1 c2 c3 nl B1 N1
    obtain ⟨c0, c1, c2, c3⟩ := N2.out.cells
    have nl := N2.out.lt
    go_wp2_with fail
    refine (great13 c h x A cA n _ 4 _ [⟨X, nx, cX⟩, ⟨U, nu, cU⟩, ⟨W, nw, cW⟩, ⟨V, nv, cV⟩] _ false hgr (rg_block (heap_alloc_new _ _) rfl) rfl (by decide)).mono ?_
    rintro e w3 ⟨rfl, hb⟩
    replace hb := ((Below.refl w2.heap.size w2).alloc (Nat.le_refl _) _).trans (hb.mono (by simp))
    have B3 := Lib.hid (chain B2.out hb)
    have N3 := Lib.hid (N2.out.below hb)
    clear hb c0 c1 c2 c3 nl B2 N2
    obtain ⟨c0, c1, c2, c3⟩ := N3.out.cells
    have nl := N3.out.lt
    go_wp2_with fail
    refine (rright_of c h x A cA n ls _ (HRL.out.below B3.out) LRL.out hn1).mono ?_
    rintro e w4 ⟨rfl, hb⟩
    rw [← HER.out]
    have B4 := Lib.hid (chain B3.out hb)
    have N4 := Lib.hid (N3.out.below hb)
    clear hb c0 c1 c2 c3 nl B3 N3
    obtain ⟨c0, c1, c2, c3⟩ := N4.out.cells
    have nl := N4.out.lt
    go_wp2_with fail
    go_ret
    exact ⟨rfl, B4.out⟩
  have gV : (nv : Int) = tw := Decidable.not_not.1 gV
  have dV : ((nv : Int) != tw) = false := by simp [gV]
  have GV := Lib.hid gV
  clear gV
  obtain ⟨fs, hfs⟩ : ∃ q, q = firstU ⟨c, h, x, ls⟩ xs := ⟨_, rfl⟩
  obtain ⟨bf, hbf⟩ : ∃ q, q = okFi ⟨c, h, x, ls⟩ xs := ⟨_, rfl⟩
  have Hfs := Lib.hid hfs; have Hbf := Lib.hid hbf
  obtain ⟨gs, hgs⟩ : ∃ q, q = firstU ⟨c, h, x, ls⟩ us := ⟨_, rfl⟩
  obtain ⟨bg, hbg⟩ : ∃ q, q = okFi ⟨c, h, x, ls⟩ us := ⟨_, rfl⟩
  have Hgs := Lib.hid hgs; have Hbg := Lib.hid hbg
  have CF : Hid (∀ (X : Option Addr) (cX nx : Nat) (w' : World), Rl w' A ls → Rg ucells w' X xs → nx = (xs).length → Calls Tryz.prog 11 #[.agg #[.int .i64 c, .int .i64 h, .int .i64 x, .slice A n cA], .slice X nx cX] w' (PairTo fs bf w')) := fun X cX nx w' z0 z1 z2 => by rw [hfs, hbf]; exact first13 c h x A X cA n cX nx ls xs w' z0 LRL.out hn60 z1 z2
  have CG : Hid (∀ (X : Option Addr) (cX nx : Nat) (w' : World), Rl w' A ls → Rg ucells w' X us → nx = (us).length → Calls Tryz.prog 11 #[.agg #[.int .i64 c, .int .i64 h, .int .i64 x, .slice A n cA], .slice X nx cX] w' (PairTo gs bg w')) := fun X cX nx w' z0 z1 z2 => by rw [hgs, hbg]; exact first13 c h x A X cA n cX nx ls us w' z0 LRL.out hn60 z1 z2
  obtain ⟨rr, f3, _⟩ := ok_all he
  have rr : (⟨c, h, x⟩ : Sh).r = true := rr
  obtain ⟨p1, p2, p3, p4, p5, p6, p7⟩ := right_bd rr
  have kq := Sh.n_eq rr
  obtain ⟨kn, hkn⟩ : ∃ kn, kn = (⟨c, h, x⟩ : Sh).n := ⟨_, rfl⟩
  rw [← hkn] at kq
  have p1 : 1 ≤ c := p1
  have p2 : c ≤ 8 := p2
  have p3 : 1 ≤ h := p3
  have p4 : h ≤ 12 := p4
  have p7 : c * h * x ≤ 128 := p7
  have kq : kn = c * h * x := kq
  have KQ := Lib.hid kq
  have m1 := mul_bd (show 0 ≤ c by omega) p2 (show 0 ≤ h by omega) p4
  obtain ⟨ch, hch⟩ : ∃ ch, ch = c * h := ⟨_, rfl⟩
  rw [← hch] at m1 p7 kq
  have kp : 1 ≤ kn := by rw [hkn]; exact size_pos rr
  have v1 : IntKind.i64.wrap (c * h) = ch := by rw [IntWalk.i64_in _ (by omega)]; exact hch.symm
  have v2 : IntKind.i64.wrap (ch * x) = kn := by rw [IntWalk.i64_in _ (by omega)]; exact kq.symm
  have v3 : wrap64 (c * h) = ch := by rw [IntWalk.wrap64_in _ (by omega)]; exact hch.symm
  have v4 : wrap64 (ch * x) = kn := by rw [IntWalk.wrap64_in _ (by omega)]; exact kq.symm
  have V1 := Lib.hid v1; have V2 := Lib.hid v2; have V3 := Lib.hid v3; have V4 := Lib.hid v4
  have BF : Hid (bf = true ↔ (nx : Int) = kn) := by
    show _ ↔ _
    rw [hbf]
    unfold okFi
    rw [decide_eq_true_iff, ← LX.out, hkn]
    exact ⟨fun q => q.2, fun q => ⟨he, q⟩⟩
  have BG : Hid (bg = true ↔ (nu : Int) = kn) := by
    show _ ↔ _
    rw [hbg]
    unfold okFi
    rw [decide_eq_true_iff, ← LU.out, hkn]
    exact ⟨fun q => q.2, fun q => ⟨he, q⟩⟩
  have BFX : Hid (bf = true → okFi ⟨c, h, x, ls⟩ xs = true) := fun q => by rw [← hbf]; exact q
  have BGX : Hid (bg = true → okFi ⟨c, h, x, ls⟩ us = true) := fun q => by rw [← hbg]; exact q
  have FS : Hid (fs = firstU ⟨c, h, x, ls⟩ xs) := hfs
  have GS : Hid (gs = firstU ⟨c, h, x, ls⟩ us) := hgs
  clear v1 v2 v3 v4 m1 hch kq p1 p2 p3 p4 p5 p6 p7 rr f3 kp hkn hfs hgs hbf hbg Hbf Hbg
  by_cases hx1 : (nx : Int) = kn
  · skip
    obtain rfl : bf = true := BF.out.2 hx1
    have q1x : ((nx : Int) == kn) = true := by simp; exact hx1
    have q2x : ((nx : Int) == c * h * x) = true := by rw [← KQ.out]; exact q1x
    have q3x : ((nx : Int) != c * h * x) = false := by rw [← KQ.out]; simp; exact hx1
    by_cases hu1 : (nu : Int) = kn
    case neg =>
      obtain rfl : bg = false := by cases q : bg with | false => rfl | true => exact absurd (BG.out.1 q) hu1
      have q1u : ((nu : Int) == kn) = false := by simp; exact hu1
      have q2u : ((nu : Int) == c * h * x) = false := by rw [← KQ.out]; exact q1u
      have q3u : ((nu : Int) != c * h * x) = true := by rw [← KQ.out]; simp; exact hu1
      clear hx1 hu1 he
      go_enter Tryz.func5, Tryz.ntmps5
      go_wp2_with fail
      refine (head13_any _).mono ?_
      rintro e w1 ⟨rfl, hb⟩
      have B1 := Lib.hid (chain ((Below.refl w.heap.size w).alloc (Nat.le_refl _) _) hb)
      have N1 := Lib.hid ((NB.new w c h x (.slice A n cA)).below hb)
      clear hb
      obtain ⟨c0, c1, c2, c3⟩ := N1.out.cells
      have nl := N1.out.lt
      go_wp2_with fail
      refine (rall_any c h x A cA n ls _ (HRL.out.below B1.out) LRL.out).mono ?_
      rintro e w2 ⟨rfl, hb⟩
      rw [← HTW.out]
      have B2 := Lib.hid (chain B1.out hb)
      have N2 := Lib.hid (N1.out.below hb)
      clear hb c0 c1 c2 c3 nl B1 N1
      obtain ⟨c0, c1, c2, c3⟩ := N2.out.cells
      have nl := N2.out.lt
      go_wp2_with fail
      refine (great13 c h x A cA n _ 4 _ [⟨X, nx, cX⟩, ⟨U, nu, cU⟩, ⟨W, nw, cW⟩, ⟨V, nv, cV⟩] _ false hgr (rg_block (heap_alloc_new _ _) rfl) rfl (by decide)).mono ?_
      rintro e w3 ⟨rfl, hb⟩
      replace hb := ((Below.refl w2.heap.size w2).alloc (Nat.le_refl _) _).trans (hb.mono (by simp))
      have B3 := Lib.hid (chain B2.out hb)
      have N3 := Lib.hid (N2.out.below hb)
      clear hb c0 c1 c2 c3 nl B2 N2
      obtain ⟨c0, c1, c2, c3⟩ := N3.out.cells
      have nl := N3.out.lt
      go_wp2_with fail
      refine (rright_of c h x A cA n ls _ (HRL.out.below B3.out) LRL.out hn1).mono ?_
      rintro e w4 ⟨rfl, hb⟩
      rw [← HER.out]
      have B4 := Lib.hid (chain B3.out hb)
      have N4 := Lib.hid (N3.out.below hb)
      clear hb c0 c1 c2 c3 nl B3 N3
      obtain ⟨c0, c1, c2, c3⟩ := N4.out.cells
      have nl := N4.out.lt
      go_wp2_with fail
      refine (CF.out X cX nx _ (HRL.out.below B4.out) (HX.out.below B4.out) LX.out).mono ?_
      rintro e w5 ⟨Aa, ka, na, rfl, h1, h2, hb, h4, h5⟩
      have Ma := Lib.hid h1; have Qa := Lib.hid h2
      clear h1 h2 h4 h5
      have B5 := Lib.hid (chain B4.out hb)
      have N5 := Lib.hid (N4.out.below hb)
      clear hb c0 c1 c2 c3 nl B4 N4
      obtain ⟨c0, c1, c2, c3⟩ := N5.out.cells
      have nl := N5.out.lt
      go_wp2_with fail
      refine (CG.out U cU nu _ (HRL.out.below B5.out) (HU.out.below B5.out) LU.out).mono ?_
      rintro e w6 ⟨Ab, kb, nb, rfl, h1, h2, hb, h4, h5⟩
      have Mb := Lib.hid h1; have Qb := Lib.hid h2
      clear h1 h2 h4 h5
      have B6 := Lib.hid (chain B5.out hb)
      have N6 := Lib.hid (N5.out.below hb)
      replace Qa := Lib.hid (Qa.out.below hb)
      clear hb c0 c1 c2 c3 nl B5 N5
      obtain ⟨c0, c1, c2, c3⟩ := N6.out.cells
      have nl := N6.out.lt
      have v1 := V1.out; have v2 := V2.out; have v3 := V3.out; have v4 := V4.out
      go_wp2_with fail
      go_ret
      exact ⟨rfl, B6.out⟩
    obtain rfl : bg = true := BG.out.2 hu1
    clear hu1 hx1 q1x q2x q3x
    have FX := BFX.out rfl
    have FU := BGX.out rfl
    have xu : xs.length = us.length := by have a := (okFi_out FX).2; have b := (okFi_out FU).2; omega
    obtain ⟨S0, hS0⟩ : ∃ S0, S0 = (stagesN ⟨c, h, x, ls⟩).length := ⟨_, rfl⟩
    have HS0 := Lib.hid hS0
    have sb : S0 ≤ 60 := by
      rw [hS0, show stagesN ⟨c, h, x, ls⟩ = stK ls ls.length from if_pos he]
      have := stK_len ls ls.length
      have := LRL.out
      omega
    have WX : Hid ((ws.length : Int) = totW (knN ⟨c, h, x, ls⟩)) := by show _ = _; rw [← LW.out, ← HTW.out]; exact GW.out
    have VX : Hid ((vs.length : Int) = totW (knN ⟨c, h, x, ls⟩)) := by show _ = _; rw [← LV.out, ← HTW.out]; exact GV.out
    obtain ⟨RR, hRR⟩ : ∃ RR, RR = runN ⟨c, h, x, ls⟩ (addU ws vs) ls.length (addU xs us) := ⟨_, rfl⟩
    have I0 : Hid (Both ⟨c, h, x, ls⟩ (addU xs us) (addU ws vs) 0 fs gs) := by show Both _ _ _ _ _ _; rw [FS.out, GS.out]; exact both_first FX FU _
    have okA : okF ⟨c, h, x, ls⟩ (addR xs us) (addR ws vs) = true := by
      refine decide_eq_true ⟨he, ?_, ?_⟩
      · rw [show (addR xs us).length = xs.length from addU_len xu]; exact (okFi_out FX).2
      · rw [show (addR ws vs).length = ws.length from addU_len (by have := WX.out; have := VX.out; omega)]; exact WX.out
    have WANT : Hid (fN ⟨c, h, x, ls⟩ (addR xs us) (addR ws vs) = RR) := by show _ = _; rw [f_yes okA, hRR]; rfl
    have OKA := Lib.hid okA; have HRR := Lib.hid hRR
    have RB1 : Hid (RR.length ≤ 128) := by
      show _ ≤ _
      rw [hRR]
      have := run_len he (addU ws vs) (xs := addU xs us) (by rw [addU_len xu]; exact (okFi_out FX).2) ls.length (Nat.le_refl _)
      have := (size_bd (endS ⟨c, h, x⟩ (ls.take ls.length))).2
      omega
    clear FX FU xu hS0 hRR okA he
    go_enter Tryz.func5, Tryz.ntmps5
    go_wp2_with fail
    refine (head13_any _).mono ?_
    rintro e w1 ⟨rfl, hb⟩
    have B1 := Lib.hid (chain ((Below.refl w.heap.size w).alloc (Nat.le_refl _) _) hb)
    have N1 := Lib.hid ((NB.new w c h x (.slice A n cA)).below hb)
    clear hb
    obtain ⟨c0, c1, c2, c3⟩ := N1.out.cells
    have nl := N1.out.lt
    go_wp2_with fail
    refine (rall_any c h x A cA n ls _ (HRL.out.below B1.out) LRL.out).mono ?_
    rintro e w2 ⟨rfl, hb⟩
    rw [← HTW.out]
    have B2 := Lib.hid (chain B1.out hb)
    have N2 := Lib.hid (N1.out.below hb)
    clear hb c0 c1 c2 c3 nl B1 N1
    obtain ⟨c0, c1, c2, c3⟩ := N2.out.cells
    have nl := N2.out.lt
    go_wp2_with fail
    refine (great13 c h x A cA n _ 4 _ [⟨X, nx, cX⟩, ⟨U, nu, cU⟩, ⟨W, nw, cW⟩, ⟨V, nv, cV⟩] _ false hgr (rg_block (heap_alloc_new _ _) rfl) rfl (by decide)).mono ?_
    rintro e w3 ⟨rfl, hb⟩
    replace hb := ((Below.refl w2.heap.size w2).alloc (Nat.le_refl _) _).trans (hb.mono (by simp))
    have B3 := Lib.hid (chain B2.out hb)
    have N3 := Lib.hid (N2.out.below hb)
    clear hb c0 c1 c2 c3 nl B2 N2
    obtain ⟨c0, c1, c2, c3⟩ := N3.out.cells
    have nl := N3.out.lt
    go_wp2_with fail
    refine (rright_of c h x A cA n ls _ (HRL.out.below B3.out) LRL.out hn1).mono ?_
    rintro e w4 ⟨rfl, hb⟩
    rw [← HER.out]
    have B4 := Lib.hid (chain B3.out hb)
    have N4 := Lib.hid (N3.out.below hb)
    clear hb c0 c1 c2 c3 nl B3 N3
    obtain ⟨c0, c1, c2, c3⟩ := N4.out.cells
    have nl := N4.out.lt
    go_wp2_with fail
    refine (CF.out X cX nx _ (HRL.out.below B4.out) (HX.out.below B4.out) LX.out).mono ?_
    rintro e w5 ⟨Aa, ka, na, rfl, h1, h2, hb, h4, h5⟩
    have Ma := Lib.hid h1; have Qa := Lib.hid h2
    clear h1 h2 h4 h5
    have B5 := Lib.hid (chain B4.out hb)
    have N5 := Lib.hid (N4.out.below hb)
    clear hb c0 c1 c2 c3 nl B4 N4
    obtain ⟨c0, c1, c2, c3⟩ := N5.out.cells
    have nl := N5.out.lt
    go_wp2_with fail
    refine (CG.out U cU nu _ (HRL.out.below B5.out) (HU.out.below B5.out) LU.out).mono ?_
    rintro e w6 ⟨Ab, kb, nb, rfl, h1, h2, hb, h4, h5⟩
    have Mb := Lib.hid h1; have Qb := Lib.hid h2
    clear h1 h2 h4 h5
    have B6 := Lib.hid (chain B5.out hb)
    have N6 := Lib.hid (N5.out.below hb)
    replace Qa := Lib.hid (Qa.out.below hb)
    clear hb c0 c1 c2 c3 nl B5 N5
    obtain ⟨c0, c1, c2, c3⟩ := N6.out.cells
    have nl := N6.out.lt
    go_wp2_with fail
    clear c0 c1 c2 c3 nl
    go_loopg [16, 17, 18, 19, 20, 21, 22, 23, 24] (S0 + 1) (fun g s16 _ s18 _ s20 _ _ _ _ wx => ∃ (k : Nat) (al bl : List UInt64) (Aa : Option Addr) (ka na : Nat) (Ab : Option Addr) (kb nb : Nat), k ≤ S0 + 1 ∧ Hid (g = S0 + 1 - k) ∧ s16 = .slice Aa na ka ∧ s18 = .slice Ab nb kb ∧ s20 = .int .i64 (k : Int) ∧ Hid (na = al.length) ∧ Hid (Rg ucells wx Aa al) ∧ Hid (nb = bl.length) ∧ Hid (Rg ucells wx Ab bl) ∧ Hid ((k ≤ S0 → Both ⟨c, h, x, ls⟩ (addU xs us) (addU ws vs) k al bl) ∧ (S0 < k → al = RR ∧ bl = RR)) ∧ Hid (Below w.heap.size w wx) ∧ Hid (NB wx w.heap.size c h x (.slice A n cA)))
    case atStart => exact ⟨0, fs, gs, Aa, ka, na, Ab, kb, nb, by omega, by show _ = _; omega, rfl, rfl, rfl, Ma, Qa, Mb, Qb, ⟨fun _ => I0.out, fun q => absurd q (by omega)⟩, B6, N6⟩
    case round =>
      clear Ma Qa Mb Qb
      obtain ⟨k, al, bl, Aa, ka, na, Ab, kb, nb, hk, HG, rfl, rfl, rfl, Ma, Qa, Mb, Qb, INV, B50, N50⟩ := hrel
      obtain ⟨c0, c1, c2, c3⟩ := N50.out.cells
      have nl := N50.out.lt
      by_cases kS1 : k ≤ S0
      · skip
        have KS1 := Lib.hid kS1
        have BO := Lib.hid (INV.out.1 kS1)
        obtain ⟨oa, ob⟩ := both_line HE.out BO.out (by rw [← HS0.out]; exact kS1) WX.out VX.out
        obtain ⟨la, hla⟩ : ∃ q, q = lineU ⟨c, h, x, ls⟩ 0 z (k : Int) al ws := ⟨_, rfl⟩
        obtain ⟨b1, hb1⟩ : ∃ q, q = okLn ⟨c, h, x, ls⟩ (k : Int) al ws := ⟨_, rfl⟩
        have Hla := Lib.hid hla; have Hb1 := Lib.hid hb1
        obtain ⟨lb, hlb⟩ : ∃ q, q = lineU ⟨c, h, x, ls⟩ 1 z (k : Int) bl vs := ⟨_, rfl⟩
        obtain ⟨b2, hb2⟩ : ∃ q, q = okLn ⟨c, h, x, ls⟩ (k : Int) bl vs := ⟨_, rfl⟩
        have Hlb := Lib.hid hlb; have Hb2 := Lib.hid hb2
        have CA : Hid (∀ (X : Option Addr) (cX nx : Nat) (Y : Option Addr) (cY ny : Nat) (w' : World), Rl w' A ls → Rg ucells w' X al → nx = (al).length → Rg ucells w' Y ws → ny = (ws).length → Calls Tryz.prog 13 #[.agg #[.int .i64 c, .int .i64 h, .int .i64 x, .slice A n cA], .int .i64 0, .int .u64 (uz z), .int .i64 (k : Int), .slice X nx cX, .slice Y ny cY] w' (PairTo la b1 w')) := fun X cX nx Y cY ny w' z0 z1 z2 z3 z4 => by rw [hla, hb1]; exact line13 c h x A X Y cA n cX nx cY ny ls al ws 0 z (k : Int) w' z0 LRL.out hn60 z1 z2 z3 z4
        have CB : Hid (∀ (X : Option Addr) (cX nx : Nat) (Y : Option Addr) (cY ny : Nat) (w' : World), Rl w' A ls → Rg ucells w' X bl → nx = (bl).length → Rg ucells w' Y vs → ny = (vs).length → Calls Tryz.prog 13 #[.agg #[.int .i64 c, .int .i64 h, .int .i64 x, .slice A n cA], .int .i64 1, .int .u64 (uz z), .int .i64 (k : Int), .slice X nx cX, .slice Y ny cY] w' (PairTo lb b2 w')) := fun X cX nx Y cY ny w' z0 z1 z2 z3 z4 => by rw [hlb, hb2]; exact line13 c h x A X Y cA n cX nx cY ny ls bl vs 1 z (k : Int) w' z0 LRL.out hn60 z1 z2 z3 z4
        have fa : okNx ⟨c, h, x, ls⟩ (k : Int) la lb = true := by rw [hla, hlb]; exact line_fits oa ob
        have fb : okNx ⟨c, h, x, ls⟩ (k : Int) lb la = true := by rw [hla, hlb]; exact line_fits ob oa
        obtain rfl : b1 = true := hb1.trans oa
        obtain rfl : b2 = true := hb2.trans ob
        obtain ⟨pa, hpa⟩ : ∃ q, q = nextU ⟨c, h, x, ls⟩ 0 z (k : Int) la lb := ⟨_, rfl⟩
        obtain ⟨b3, hb3⟩ : ∃ q, q = okNx ⟨c, h, x, ls⟩ (k : Int) la lb := ⟨_, rfl⟩
        have Hpa := Lib.hid hpa; have Hb3 := Lib.hid hb3
        obtain ⟨pb, hpb⟩ : ∃ q, q = nextU ⟨c, h, x, ls⟩ 1 z (k : Int) lb la := ⟨_, rfl⟩
        obtain ⟨b4, hb4⟩ : ∃ q, q = okNx ⟨c, h, x, ls⟩ (k : Int) lb la := ⟨_, rfl⟩
        have Hpb := Lib.hid hpb; have Hb4 := Lib.hid hb4
        have CC : Hid (∀ (X : Option Addr) (cX nx : Nat) (Y : Option Addr) (cY ny : Nat) (w' : World), Rl w' A ls → Rg ucells w' X la → nx = (la).length → Rg ucells w' Y lb → ny = (lb).length → Calls Tryz.prog 15 #[.agg #[.int .i64 c, .int .i64 h, .int .i64 x, .slice A n cA], .int .i64 0, .int .u64 (uz z), .int .i64 (k : Int), .slice X nx cX, .slice Y ny cY] w' (PairTo pa b3 w')) := fun X cX nx Y cY ny w' z0 z1 z2 z3 z4 => by rw [hpa, hb3]; exact next13 c h x A X Y cA n cX nx cY ny ls la lb 0 z (k : Int) w' z0 LRL.out hn60 z1 z2 z3 z4
        have CD : Hid (∀ (X : Option Addr) (cX nx : Nat) (Y : Option Addr) (cY ny : Nat) (w' : World), Rl w' A ls → Rg ucells w' X lb → nx = (lb).length → Rg ucells w' Y la → ny = (la).length → Calls Tryz.prog 15 #[.agg #[.int .i64 c, .int .i64 h, .int .i64 x, .slice A n cA], .int .i64 1, .int .u64 (uz z), .int .i64 (k : Int), .slice X nx cX, .slice Y ny cY] w' (PairTo pb b4 w')) := fun X cX nx Y cY ny w' z0 z1 z2 z3 z4 => by rw [hpb, hb4]; exact next13 c h x A X Y cA n cX nx cY ny ls lb la 1 z (k : Int) w' z0 LRL.out hn60 z1 z2 z3 z4
        obtain rfl : b3 = true := hb3.trans fa
        obtain rfl : b4 = true := hb4.trans fb
        have INV2 : Hid ((k + 1 ≤ S0 → Both ⟨c, h, x, ls⟩ (addU xs us) (addU ws vs) (k + 1) pa pb) ∧ (S0 < k + 1 → pa = RR ∧ pb = RR)) := by
          refine ⟨fun q => ?_, fun q => ?_⟩
          · rw [hpa, hpb, hla, hlb]
            exact both_next HE.out z BO.out (by rw [← HS0.out]; omega) WX.out VX.out
          · obtain rfl : k = S0 := by have := KS1.out; omega
            have BL := BO.out
            rw [HS0.out] at BL
            obtain ⟨e1, e2⟩ := both_last HE.out z BL WX.out VX.out
            rw [← HS0.out] at e1 e2
            exact ⟨by rw [hpa, hla, hlb, e1, HRR.out], by rw [hpb, hla, hlb, e2, HRR.out]⟩
        have dk : k ≤ S0 := kS1
        have dk2 : decide (k ≤ S0) = true := decide_eq_true kS1
        clear hla hlb hb1 hb2 Hb1 Hb2 hpa hpb hb3 hb4 Hb3 Hb4 oa ob fa fb kS1 dk BO
        go_wp2_with fail
        refine (rstages8 c h x A cA n ls _ (HRL.out.below B50.out) LRL.out hn60).mono ?_
        rintro e w51 ⟨AS, kS, nS, rfl, hnS, hRS, hb, hd1, hd2⟩
        obtain rfl : S0 = nS := by rw [hnS, HS0.out]
        clear hnS hRS hd1 hd2
        have B51 := Lib.hid (chain B50.out hb)
        have N51 := Lib.hid (N50.out.below hb)
        replace Qa := Lib.hid (Qa.out.below hb)
        replace Qb := Lib.hid (Qb.out.below hb)
        clear hb c0 c1 c2 c3 nl B50 N50
        obtain ⟨c0, c1, c2, c3⟩ := N51.out.cells
        have nl := N51.out.lt
        clear dk2
        go_wp2_with fail
        refine (CA.out Aa ka na W cW nw _ (HRL.out.below B51.out) Qa.out Ma.out (HW.out.below B51.out) LW.out).mono ?_
        rintro e w52 ⟨Ac, kc, nc, rfl, h1, h2, hb, h4, h5⟩
        have Mc := Lib.hid h1; have Qc := Lib.hid h2
        clear h1 h2 h4 h5
        have B52 := Lib.hid (chain B51.out hb)
        have N52 := Lib.hid (N51.out.below hb)
        replace Qa := Lib.hid (Qa.out.below hb)
        replace Qb := Lib.hid (Qb.out.below hb)
        clear hb c0 c1 c2 c3 nl B51 N51
        obtain ⟨c0, c1, c2, c3⟩ := N52.out.cells
        have nl := N52.out.lt
        go_wp2_with fail
        refine (CB.out Ab kb nb V cV nv _ (HRL.out.below B52.out) Qb.out Mb.out (HV.out.below B52.out) LV.out).mono ?_
        rintro e w53 ⟨Ad, kd, nd, rfl, h1, h2, hb, h4, h5⟩
        have Md := Lib.hid h1; have Qd := Lib.hid h2
        clear h1 h2 h4 h5
        have B53 := Lib.hid (chain B52.out hb)
        have N53 := Lib.hid (N52.out.below hb)
        replace Qa := Lib.hid (Qa.out.below hb)
        replace Qb := Lib.hid (Qb.out.below hb)
        replace Qc := Lib.hid (Qc.out.below hb)
        clear hb c0 c1 c2 c3 nl B52 N52
        obtain ⟨c0, c1, c2, c3⟩ := N53.out.cells
        have nl := N53.out.lt
        go_wp2_with fail
        refine (CC.out Ac kc nc Ad kd nd _ (HRL.out.below B53.out) Qc.out Mc.out Qd.out Md.out).mono ?_
        rintro e w54 ⟨Ae, ke, ne, rfl, h1, h2, hb, h4, h5⟩
        have Me := Lib.hid h1; have Qe := Lib.hid h2
        clear h1 h2 h4 h5
        have B54 := Lib.hid (chain B53.out hb)
        have N54 := Lib.hid (N53.out.below hb)
        replace Qa := Lib.hid (Qa.out.below hb)
        replace Qb := Lib.hid (Qb.out.below hb)
        replace Qc := Lib.hid (Qc.out.below hb)
        replace Qd := Lib.hid (Qd.out.below hb)
        clear hb c0 c1 c2 c3 nl B53 N53
        obtain ⟨c0, c1, c2, c3⟩ := N54.out.cells
        have nl := N54.out.lt
        go_wp2_with fail
        refine (CD.out Ad kd nd Ac kc nc _ (HRL.out.below B54.out) Qd.out Md.out Qc.out Mc.out).mono ?_
        rintro e w55 ⟨Af, kf, nf, rfl, h1, h2, hb, h4, h5⟩
        have Mf := Lib.hid h1; have Qf := Lib.hid h2
        clear h1 h2 h4 h5
        have B55 := Lib.hid (chain B54.out hb)
        have N55 := Lib.hid (N54.out.below hb)
        replace Qa := Lib.hid (Qa.out.below hb)
        replace Qb := Lib.hid (Qb.out.below hb)
        replace Qc := Lib.hid (Qc.out.below hb)
        replace Qd := Lib.hid (Qd.out.below hb)
        replace Qe := Lib.hid (Qe.out.below hb)
        clear hb c0 c1 c2 c3 nl B54 N54
        obtain ⟨c0, c1, c2, c3⟩ := N55.out.cells
        have nl := N55.out.lt
        go_wp2_with fail
        go_roundg (S0 + 1 - (k + 1))
        case measure => have := HG.out; have := KS1.out; omega
        case rel => exact ⟨k + 1, pa, pb, Ae, ke, ne, Af, kf, nf, by have := KS1.out; omega, rfl, rfl, rfl, by have := KS1.out; go_num, Me, Qe, Mf, Qf, INV2, B55, N55⟩
      · skip
        obtain ⟨ea, eb⟩ := INV.out.2 (by omega)
        subst ea
        obtain rfl := eb
        have dk2 : decide (k ≤ S0) = false := decide_eq_false kS1
        clear kS1 INV I0
        go_wp2_with fail
        refine (rstages8 c h x A cA n ls _ (HRL.out.below B50.out) LRL.out hn60).mono ?_
        rintro e w51 ⟨AS, kS, nS, rfl, hnS, hRS, hb, hd1, hd2⟩
        obtain rfl : S0 = nS := by rw [hnS, HS0.out]
        clear hnS hRS hd1 hd2
        have B51 := Lib.hid (chain B50.out hb)
        have N51 := Lib.hid (N50.out.below hb)
        replace Qa := Lib.hid (Qa.out.below hb)
        replace Qb := Lib.hid (Qb.out.below hb)
        clear hb c0 c1 c2 c3 nl B50 N50
        obtain ⟨c0, c1, c2, c3⟩ := N51.out.cells
        have nl := N51.out.lt
        go_wp2_with fail
        have nl1 := nl; have nl2 := nl; have nl3 := nl
        refine wp_region_noPanic ?_
        refine wp_region_held_drew (S := fun w' => w'.cell? ⟨w.heap.size, 0, none⟩ = some (.int .i64 c) ∧ w'.cell? ⟨w.heap.size, 1, none⟩ = some (.int .i64 h) ∧ w'.cell? ⟨w.heap.size, 2, none⟩ = some (.int .i64 x) ∧ w'.cell? ⟨w.heap.size, 3, none⟩ = some (.slice A n cA)) (by kernel_rfl) ⟨c0, c1, c2, c3⟩ (fun hHeld => ?_)
        have hd := below_drew w51
        replace c0 := (hd.cell (p := ⟨w.heap.size, 0, none⟩) nl).trans c0
        replace nl := Nat.lt_of_lt_of_le nl hd.size
        replace c1 := (hd.cell (p := ⟨w.heap.size, 1, none⟩) nl1).trans c1
        replace nl1 := Nat.lt_of_lt_of_le nl1 hd.size
        replace c2 := (hd.cell (p := ⟨w.heap.size, 2, none⟩) nl2).trans c2
        replace nl2 := Nat.lt_of_lt_of_le nl2 hd.size
        replace c3 := (hd.cell (p := ⟨w.heap.size, 3, none⟩) nl3).trans c3
        replace nl3 := Nat.lt_of_lt_of_le nl3 hd.size
        generalize w51.drew = wq1 at hHeld hd c0 nl c1 nl1 c2 nl2 c3 nl3 ⊢
        have BD : Hid (Below wq1.heap.size wq1 wq1) := Below.refl _ _
        refine wpAnyH_take (i := 0) (v := ?vv1001) (by simp only [List.getElem?_toArray, List.getElem?_cons_zero]; rfl) (by kernel_rfl) (by kernel_rfl) (by kernel_rfl) (fun _ _ _ h => h) (Or.inl ⟨by rfl, ?yy1001⟩) (by assumption) ?rr1001
        case yy1001 => (intro w hSw; (try dsimp only at hSw); go_simp; first | done | with_reducible rfl)
        simp only [Act.put, List.setIfInBounds_toArray, List.set_cons_zero, List.set_cons_succ]
        refine wpAnyH_take (i := 1) (v := ?vv1002) (by simp only [List.getElem?_toArray, List.getElem?_cons_zero, List.getElem?_cons_succ]; rfl) (by kernel_rfl) (by kernel_rfl) (by kernel_rfl) (fun _ _ _ h => h) (Or.inl ⟨by rfl, ?yy1002⟩) (by assumption) ?rr1002
        case yy1002 => (intro w hSw; (try dsimp only at hSw); go_simp; first | done | with_reducible rfl)
        simp only [Act.put, List.setIfInBounds_toArray, List.set_cons_zero, List.set_cons_succ]
        refine wpAnyH_take (i := 2) (v := ?vv1003) (by simp only [List.getElem?_toArray, List.getElem?_cons_zero, List.getElem?_cons_succ]; rfl) (by kernel_rfl) (by kernel_rfl) (by kernel_rfl) (fun _ _ _ h => h) (Or.inl ⟨by rfl, ?yy1003⟩) (by assumption) ?rr1003
        case yy1003 => (intro w hSw; (try dsimp only at hSw); go_simp; first | done | with_reducible rfl)
        simp only [Act.put, List.setIfInBounds_toArray, List.set_cons_zero, List.set_cons_succ]
        refine wpAnyH_take (i := 4) (v := ?vv1004) (by simp only [List.getElem?_toArray, List.getElem?_cons_zero, List.getElem?_cons_succ]; rfl) (by kernel_rfl) (by kernel_rfl) (by kernel_rfl) (fun _ _ _ h => h) (Or.inl ⟨by rfl, ?yy1004⟩) (by assumption) ?rr1004
        case yy1004 => (intro w hSw; (try dsimp only at hSw); go_simp; first | done | with_reducible rfl)
        simp only [Act.put, List.setIfInBounds_toArray, List.set_cons_zero, List.set_cons_succ]
        refine wpAnyH_take (i := 5) (v := ?vv1005) (by simp only [List.getElem?_toArray, List.getElem?_cons_zero, List.getElem?_cons_succ]; rfl) (by kernel_rfl) (by kernel_rfl) (by kernel_rfl) (fun _ _ _ h => h) (Or.inl ⟨by rfl, ?yy1005⟩) (by assumption) ?rr1005
        case yy1005 => (intro w hSw; (try dsimp only at hSw); go_simp; first | done | with_reducible rfl)
        simp only [Act.put, List.setIfInBounds_toArray, List.set_cons_zero, List.set_cons_succ]
        refine wpAnyH_ready (rs := [3]) (by kernel_rfl) (by simp) ?_
        refine AllReadyH.cons (by simp only [List.getElem?_toArray, List.getElem?_cons_zero, List.getElem?_cons_succ]; rfl) (fun K hK => ?_) ?_
        · skip
          go_simp
          go_at_call 19
          (with_reducible refine (nadd X U cX cU nx nu (xs) (us) _ (HX.out.below (chain B51.out (chain hd BD.out))) (HU.out.below (chain B51.out (chain hd BD.out))) LX.out LU.out (by omega)).mono ?_)
          rintro e wq2 ⟨Af, kf, nf, rfl, h1, h2, hb, h4, h5, h6⟩
          clear hHeld
          replace BD := Lib.hid (chain BD.out hb)
          have Mf := Lib.hid h1; have Qf := Lib.hid h2
          clear h1 h2 h4 h5 h6
          clear hb
          go_wp2_with fail
          refine hK.out _ _ ⟨(BD.out.cell (p := ⟨w.heap.size, 0, none⟩) nl).trans c0, (BD.out.cell (p := ⟨w.heap.size, 1, none⟩) nl1).trans c1, (BD.out.cell (p := ⟨w.heap.size, 2, none⟩) nl2).trans c2, (BD.out.cell (p := ⟨w.heap.size, 3, none⟩) nl3).trans c3⟩ (fun hHeld => ?_)
          clear hK K
          try simp only [Act.put, List.setIfInBounds_toArray, List.set_cons_zero, List.set_cons_succ]
          refine wpAnyH_ready (rs := [6]) (by kernel_rfl) (by simp) ?_
          refine AllReadyH.cons (by simp only [List.getElem?_toArray, List.getElem?_cons_zero, List.getElem?_cons_succ]; rfl) (fun K hK => ?_) ?_
          · skip
            go_simp
            go_at_call 19
            (with_reducible refine (nadd W V cW cV nw nv (ws) (vs) _ (HW.out.below (chain B51.out (chain hd BD.out))) (HV.out.below (chain B51.out (chain hd BD.out))) LW.out LV.out (by omega)).mono ?_)
            rintro e wq3 ⟨Ag, kg, ng, rfl, h1, h2, hb, h4, h5, h6⟩
            clear hHeld
            replace BD := Lib.hid (chain BD.out hb)
            replace Qf := Lib.hid (Qf.out.below hb)
            have Mg := Lib.hid h1; have Qg := Lib.hid h2
            clear h1 h2 h4 h5 h6
            clear hb
            go_wp2_with fail
            refine hK.out _ _ ⟨(BD.out.cell (p := ⟨w.heap.size, 0, none⟩) nl).trans c0, (BD.out.cell (p := ⟨w.heap.size, 1, none⟩) nl1).trans c1, (BD.out.cell (p := ⟨w.heap.size, 2, none⟩) nl2).trans c2, (BD.out.cell (p := ⟨w.heap.size, 3, none⟩) nl3).trans c3⟩ (fun hHeld => ?_)
            clear hK K
            try simp only [Act.put, List.setIfInBounds_toArray, List.set_cons_zero, List.set_cons_succ]
            refine wpAnyH_ready (rs := [7]) (by kernel_rfl) (by simp) ?_
            refine AllReadyH.cons (by simp only [List.getElem?_toArray, List.getElem?_cons_zero, List.getElem?_cons_succ]; rfl) (fun K hK => ?_) ?_
            · skip
              go_simp
              go_at_call 23
              (with_reducible refine (rF_any c h x A Af Ag cA n kf nf kg ng ls (addR (xs) (us)) (addR (ws) (vs)) bl true _ (HRL.out.below (chain B51.out (chain hd BD.out))) LRL.out hn1 Qf.out Mf.out Qg.out Mg.out WANT.out OKA.out).mono ?_)
              rintro e wq4 ⟨At, kt, nt, rfl, h1, h2, hb, h4, h5⟩
              clear hHeld
              replace BD := Lib.hid (chain BD.out hb)
              replace Qf := Lib.hid (Qf.out.below hb)
              replace Qg := Lib.hid (Qg.out.below hb)
              have Mt := Lib.hid h1; have Qt := Lib.hid h2
              clear h1 h2 h4 h5
              clear hb
              go_wp2_with fail
              refine hK.out _ _ ⟨(BD.out.cell (p := ⟨w.heap.size, 0, none⟩) nl).trans c0, (BD.out.cell (p := ⟨w.heap.size, 1, none⟩) nl1).trans c1, (BD.out.cell (p := ⟨w.heap.size, 2, none⟩) nl2).trans c2, (BD.out.cell (p := ⟨w.heap.size, 3, none⟩) nl3).trans c3⟩ (fun hHeld => ?_)
              clear hK K
              try simp only [Act.put, List.setIfInBounds_toArray, List.set_cons_zero, List.set_cons_succ]
              refine wpAnyH_take (i := 8) (v := ?vv1006) (by simp only [List.getElem?_toArray, List.getElem?_cons_zero, List.getElem?_cons_succ]; rfl) (by kernel_rfl) (by kernel_rfl) (by kernel_rfl) (fun _ _ _ h => h) (Or.inl ⟨by rfl, ?yy1006⟩) (by assumption) ?rr1006
              case yy1006 => (intro w hSw; (try dsimp only at hSw); go_simp; first | done | with_reducible rfl)
              simp only [Act.put, List.setIfInBounds_toArray, List.set_cons_zero, List.set_cons_succ]
              refine wpAnyH_take (i := 9) (v := ?vv1007) (by simp only [List.getElem?_toArray, List.getElem?_cons_zero, List.getElem?_cons_succ]; rfl) (by kernel_rfl) (by kernel_rfl) (by kernel_rfl) (fun _ _ _ h => h) (Or.inl ⟨by rfl, ?yy1007⟩) (by assumption) ?rr1007
              case yy1007 => (intro w hSw; (try dsimp only at hSw); go_simp; first | done | with_reducible rfl)
              simp only [Act.put, List.setIfInBounds_toArray, List.set_cons_zero, List.set_cons_succ]
              refine wpAnyH_take (i := 10) (v := ?vv1008) (by simp only [List.getElem?_toArray, List.getElem?_cons_zero, List.getElem?_cons_succ]; rfl) (by kernel_rfl) (by kernel_rfl) (by kernel_rfl) (fun _ _ _ h => h) (Or.inl ⟨by rfl, ?yy1008⟩) (by assumption) ?rr1008
              case yy1008 => (intro w hSw; (try dsimp only at hSw); go_simp; first | done | with_reducible rfl)
              simp only [Act.put, List.setIfInBounds_toArray, List.set_cons_zero, List.set_cons_succ]
              refine wpAnyH_take (i := 11) (v := ?vv1009) (by simp only [List.getElem?_toArray, List.getElem?_cons_zero, List.getElem?_cons_succ]; rfl) (by kernel_rfl) (by kernel_rfl) (by kernel_rfl) (fun _ _ _ h => h) (Or.inl ⟨by rfl, ?yy1009⟩) (by assumption) ?rr1009
              case yy1009 => (intro w hSw; (try dsimp only at hSw); go_simp; first | done | with_reducible rfl)
              simp only [Act.put, List.setIfInBounds_toArray, List.set_cons_zero, List.set_cons_succ]
              refine wpAnyH_take (i := 12) (v := ?vv1010) (by simp only [List.getElem?_toArray, List.getElem?_cons_zero, List.getElem?_cons_succ]; rfl) (by kernel_rfl) (by kernel_rfl) (by kernel_rfl) (fun _ _ _ h => h) (Or.inl ⟨by rfl, ?yy1010⟩) (by assumption) ?rr1010
              case yy1010 => (intro w hSw; (try dsimp only at hSw); go_simp; first | done | with_reducible rfl)
              simp only [Act.put, List.setIfInBounds_toArray, List.set_cons_zero, List.set_cons_succ]
              refine wpAnyH_done (by kernel_rfl) ?_ _
              refine NoPanic.normal ?_
              clear hHeld
              have hb := chain hd BD.out
              obtain ⟨w52, hW9⟩ : ∃ W, W = wq4 := ⟨_, rfl⟩
              rw [← hW9] at hb Qt ⊢
              clear hW9 hd BD Qf Mf Qg Mg nl1 nl2 nl3 dk2
              have B52 := Lib.hid (chain B51.out hb)
              have N52 := Lib.hid (N51.out.below hb)
              replace Qa := Lib.hid (Qa.out.below hb)
              replace Qb := Lib.hid (Qb.out.below hb)
              clear hb c0 c1 c2 c3 nl B51 N51
              obtain ⟨c0, c1, c2, c3⟩ := N52.out.cells
              have nl := N52.out.lt
              go_wp2_with fail
              refine (ssame Aa At ka kt na nt (bl) (bl) _ Qa.out Qt.out Ma.out Mt.out (by rw [Ma.out]; have := RB1.out; omega) (rfl)).mono ?_
              rintro e w53 ⟨rfl, hb⟩
              have B53 := Lib.hid (chain B52.out hb)
              have N53 := Lib.hid (N52.out.below hb)
              replace Qa := Lib.hid (Qa.out.below hb)
              replace Qb := Lib.hid (Qb.out.below hb)
              replace Qt := Lib.hid (Qt.out.below hb)
              clear hb c0 c1 c2 c3 nl B52 N52
              obtain ⟨c0, c1, c2, c3⟩ := N53.out.cells
              have nl := N53.out.lt
              go_wp2_with fail
              refine (ssame Ab At kb kt nb nt (bl) (bl) _ Qb.out Qt.out Mb.out Mt.out (by rw [Mb.out]; have := RB1.out; omega) (rfl)).mono ?_
              rintro e w54 ⟨rfl, hb⟩
              have B54 := Lib.hid (chain B53.out hb)
              have N54 := Lib.hid (N53.out.below hb)
              replace Qa := Lib.hid (Qa.out.below hb)
              replace Qb := Lib.hid (Qb.out.below hb)
              replace Qt := Lib.hid (Qt.out.below hb)
              clear hb c0 c1 c2 c3 nl B53 N53
              obtain ⟨c0, c1, c2, c3⟩ := N54.out.cells
              have nl := N54.out.lt
              go_wp2_with fail
              go_ret
              exact ⟨rfl, B54.out⟩
            exact AllReadyH.nil
          exact AllReadyH.nil
        exact AllReadyH.nil
  · skip
    obtain rfl : bf = false := by cases q : bf with | false => rfl | true => exact absurd (BF.out.1 q) hx1
    have q1x : ((nx : Int) == kn) = false := by simp; exact hx1
    have q2x : ((nx : Int) == c * h * x) = false := by rw [← KQ.out]; exact q1x
    have q3x : ((nx : Int) != c * h * x) = true := by rw [← KQ.out]; simp; exact hx1
    by_cases hu1 : (nu : Int) = kn
    · skip
      obtain rfl : bg = true := BG.out.2 hu1
      have q1u : ((nu : Int) == kn) = true := by simp; exact hu1
      have q2u : ((nu : Int) == c * h * x) = true := by rw [← KQ.out]; exact q1u
      have q3u : ((nu : Int) != c * h * x) = false := by rw [← KQ.out]; simp; exact hu1
      clear hx1 hu1 he
      go_enter Tryz.func5, Tryz.ntmps5
      go_wp2_with fail
      refine (head13_any _).mono ?_
      rintro e w1 ⟨rfl, hb⟩
      have B1 := Lib.hid (chain ((Below.refl w.heap.size w).alloc (Nat.le_refl _) _) hb)
      have N1 := Lib.hid ((NB.new w c h x (.slice A n cA)).below hb)
      clear hb
      obtain ⟨c0, c1, c2, c3⟩ := N1.out.cells
      have nl := N1.out.lt
      go_wp2_with fail
      refine (rall_any c h x A cA n ls _ (HRL.out.below B1.out) LRL.out).mono ?_
      rintro e w2 ⟨rfl, hb⟩
      rw [← HTW.out]
      have B2 := Lib.hid (chain B1.out hb)
      have N2 := Lib.hid (N1.out.below hb)
      clear hb c0 c1 c2 c3 nl B1 N1
      obtain ⟨c0, c1, c2, c3⟩ := N2.out.cells
      have nl := N2.out.lt
      go_wp2_with fail
      refine (great13 c h x A cA n _ 4 _ [⟨X, nx, cX⟩, ⟨U, nu, cU⟩, ⟨W, nw, cW⟩, ⟨V, nv, cV⟩] _ false hgr (rg_block (heap_alloc_new _ _) rfl) rfl (by decide)).mono ?_
      rintro e w3 ⟨rfl, hb⟩
      replace hb := ((Below.refl w2.heap.size w2).alloc (Nat.le_refl _) _).trans (hb.mono (by simp))
      have B3 := Lib.hid (chain B2.out hb)
      have N3 := Lib.hid (N2.out.below hb)
      clear hb c0 c1 c2 c3 nl B2 N2
      obtain ⟨c0, c1, c2, c3⟩ := N3.out.cells
      have nl := N3.out.lt
      go_wp2_with fail
      refine (rright_of c h x A cA n ls _ (HRL.out.below B3.out) LRL.out hn1).mono ?_
      rintro e w4 ⟨rfl, hb⟩
      rw [← HER.out]
      have B4 := Lib.hid (chain B3.out hb)
      have N4 := Lib.hid (N3.out.below hb)
      clear hb c0 c1 c2 c3 nl B3 N3
      obtain ⟨c0, c1, c2, c3⟩ := N4.out.cells
      have nl := N4.out.lt
      go_wp2_with fail
      refine (CF.out X cX nx _ (HRL.out.below B4.out) (HX.out.below B4.out) LX.out).mono ?_
      rintro e w5 ⟨Aa, ka, na, rfl, h1, h2, hb, h4, h5⟩
      have Ma := Lib.hid h1; have Qa := Lib.hid h2
      clear h1 h2 h4 h5
      have B5 := Lib.hid (chain B4.out hb)
      have N5 := Lib.hid (N4.out.below hb)
      clear hb c0 c1 c2 c3 nl B4 N4
      obtain ⟨c0, c1, c2, c3⟩ := N5.out.cells
      have nl := N5.out.lt
      go_wp2_with fail
      refine (CG.out U cU nu _ (HRL.out.below B5.out) (HU.out.below B5.out) LU.out).mono ?_
      rintro e w6 ⟨Ab, kb, nb, rfl, h1, h2, hb, h4, h5⟩
      have Mb := Lib.hid h1; have Qb := Lib.hid h2
      clear h1 h2 h4 h5
      have B6 := Lib.hid (chain B5.out hb)
      have N6 := Lib.hid (N5.out.below hb)
      replace Qa := Lib.hid (Qa.out.below hb)
      clear hb c0 c1 c2 c3 nl B5 N5
      obtain ⟨c0, c1, c2, c3⟩ := N6.out.cells
      have nl := N6.out.lt
      have v1 := V1.out; have v2 := V2.out; have v3 := V3.out; have v4 := V4.out
      go_wp2_with fail
      go_ret
      exact ⟨rfl, B6.out⟩
    · skip
      obtain rfl : bg = false := by cases q : bg with | false => rfl | true => exact absurd (BG.out.1 q) hu1
      have q1u : ((nu : Int) == kn) = false := by simp; exact hu1
      have q2u : ((nu : Int) == c * h * x) = false := by rw [← KQ.out]; exact q1u
      have q3u : ((nu : Int) != c * h * x) = true := by rw [← KQ.out]; simp; exact hu1
      clear hx1 hu1 he
      go_enter Tryz.func5, Tryz.ntmps5
      go_wp2_with fail
      refine (head13_any _).mono ?_
      rintro e w1 ⟨rfl, hb⟩
      have B1 := Lib.hid (chain ((Below.refl w.heap.size w).alloc (Nat.le_refl _) _) hb)
      have N1 := Lib.hid ((NB.new w c h x (.slice A n cA)).below hb)
      clear hb
      obtain ⟨c0, c1, c2, c3⟩ := N1.out.cells
      have nl := N1.out.lt
      go_wp2_with fail
      refine (rall_any c h x A cA n ls _ (HRL.out.below B1.out) LRL.out).mono ?_
      rintro e w2 ⟨rfl, hb⟩
      rw [← HTW.out]
      have B2 := Lib.hid (chain B1.out hb)
      have N2 := Lib.hid (N1.out.below hb)
      clear hb c0 c1 c2 c3 nl B1 N1
      obtain ⟨c0, c1, c2, c3⟩ := N2.out.cells
      have nl := N2.out.lt
      go_wp2_with fail
      refine (great13 c h x A cA n _ 4 _ [⟨X, nx, cX⟩, ⟨U, nu, cU⟩, ⟨W, nw, cW⟩, ⟨V, nv, cV⟩] _ false hgr (rg_block (heap_alloc_new _ _) rfl) rfl (by decide)).mono ?_
      rintro e w3 ⟨rfl, hb⟩
      replace hb := ((Below.refl w2.heap.size w2).alloc (Nat.le_refl _) _).trans (hb.mono (by simp))
      have B3 := Lib.hid (chain B2.out hb)
      have N3 := Lib.hid (N2.out.below hb)
      clear hb c0 c1 c2 c3 nl B2 N2
      obtain ⟨c0, c1, c2, c3⟩ := N3.out.cells
      have nl := N3.out.lt
      go_wp2_with fail
      refine (rright_of c h x A cA n ls _ (HRL.out.below B3.out) LRL.out hn1).mono ?_
      rintro e w4 ⟨rfl, hb⟩
      rw [← HER.out]
      have B4 := Lib.hid (chain B3.out hb)
      have N4 := Lib.hid (N3.out.below hb)
      clear hb c0 c1 c2 c3 nl B3 N3
      obtain ⟨c0, c1, c2, c3⟩ := N4.out.cells
      have nl := N4.out.lt
      go_wp2_with fail
      refine (CF.out X cX nx _ (HRL.out.below B4.out) (HX.out.below B4.out) LX.out).mono ?_
      rintro e w5 ⟨Aa, ka, na, rfl, h1, h2, hb, h4, h5⟩
      have Ma := Lib.hid h1; have Qa := Lib.hid h2
      clear h1 h2 h4 h5
      have B5 := Lib.hid (chain B4.out hb)
      have N5 := Lib.hid (N4.out.below hb)
      clear hb c0 c1 c2 c3 nl B4 N4
      obtain ⟨c0, c1, c2, c3⟩ := N5.out.cells
      have nl := N5.out.lt
      go_wp2_with fail
      refine (CG.out U cU nu _ (HRL.out.below B5.out) (HU.out.below B5.out) LU.out).mono ?_
      rintro e w6 ⟨Ab, kb, nb, rfl, h1, h2, hb, h4, h5⟩
      have Mb := Lib.hid h1; have Qb := Lib.hid h2
      clear h1 h2 h4 h5
      have B6 := Lib.hid (chain B5.out hb)
      have N6 := Lib.hid (N5.out.below hb)
      replace Qa := Lib.hid (Qa.out.below hb)
      clear hb c0 c1 c2 c3 nl B5 N5
      obtain ⟨c0, c1, c2, c3⟩ := N6.out.cells
      have nl := N6.out.lt
      have v1 := V1.out; have v2 := V2.out; have v3 := V3.out; have v4 := V4.out
      go_wp2_with fail
      go_ret
      exact ⟨rfl, B6.out⟩

end Go.Proofs.YtklgjhldebdegaaGreat

namespace Go.Proofs.YtklgjhldebdegaaGreat.evalWhole
open Go.ChangeShapes Go.WideShapes Go.ChangeAt Go.RowKit

set_option maxRecDepth 100000 in
theorem lifted (os : Os) (started : os.Started) (H : Type) (enc : TypeId × Value → H) :
    ReturnsInHanded {} Tryz.checked os 5 .any (Rows.evalWholeSpec.pre6 enc Tryz.prog Tryz.f5 Rows.evalWholeRow.domain false) (Rows.evalWholeSpec.post enc Tryz.prog Tryz.f5 false true false false) := by
  refine returnsInHanded_of_change (C := Tryz.checked) Tryz.own started (by kernel_rfl) Tryz.func5
    (ChangeSpec.witness6 (enc := enc) (C := Tryz.checked) false ⟨#[], #[.agg #[.int .i64 0, .int .i64 0, .int .i64 0, .slice none 0 0], .int .u64 0, .slice none 0 0, .slice none 0 0, .slice none 0 0, .slice none 0 0], []⟩ 8 (by kernel_rfl) (by kernel_rfl) (by kernel_rfl) (by kernel_rfl)) ?_
  intro W base args ds gs before hval0 hW _ _
  have hval : ∀ (j : Nat) t v, Tryz.f5.params[j]? = some t → args[j]? = some v → Value.okWide Tryz.prog W .any base t v := hval0
  have hW' := hW
  obtain ⟨p, q, hA0, hV, rfl, hfz, hnd⟩ := hW
  have hA : DataW.TrodAll enc Tryz.prog W 0 (fun _ => true) true Tryz.f5.params.toList args.toList ds p := hA0
  rw [Tryz.params5] at hA hval
  obtain ⟨v0, vs0, d0, ds0, p0, q0, hargs, rfl, rfl, h0, r0⟩ := trodAll_cons hA
  obtain ⟨v1, vs1, d1, ds1, p1, q1, rfl, rfl, rfl, h1, r1⟩ := trodAll_cons r0
  obtain ⟨v2, vs2, d2, ds2, p2, q2, rfl, rfl, rfl, h2, r2⟩ := trodAll_cons r1
  obtain ⟨v3, vs3, d3, ds3, p3, q3, rfl, rfl, rfl, h3, r3⟩ := trodAll_cons r2
  obtain ⟨v4, vs4, d4, ds4, p4, q4, rfl, rfl, rfl, h4, r4⟩ := trodAll_cons r3
  obtain ⟨v5, vs5, d5, ds5, p5, q5, rfl, rfl, rfl, h5, r5⟩ := trodAll_cons r4
  obtain ⟨rfl, rfl, rfl⟩ := trodAll_nil r5
  obtain rfl : args = #[v0, v1, v2, v3, v4, v5] := by cases args; simp_all
  obtain ⟨rfl, rfl⟩ := trodVars_none hV
  have k0 := h0
  have lt0 : ∀ x ∈ p0, x.block < W.heap.size := by obtain ⟨m, hm⟩ := k0; exact DataW.trod_lt m _ _ _ hm
  obtain ⟨c0, y0, x0, A0, n0, cap0, l0, rfl, e0, w0, b0, m0⟩ := net_open (hval 0 26 v0 rfl rfl) h0
  obtain ⟨a1, rfl, rfl, rfl, w1⟩ := open_int Tryz.underlying27 (hval 1 27 v1 rfl rfl) h1
  obtain ⟨u1, e1⟩ := u64_of_wf w1
  subst e1
  obtain ⟨A2, n2, cap2, rfl⟩ := okWide_slice Tryz.underlying28 (hval 2 28 v2 rfl rfl)
  have k2 := h2
  have lt2 : ∀ x ∈ p2, x.block < W.heap.size := by obtain ⟨m, hm⟩ := k2; exact DataW.trod_lt m _ _ _ hm
  obtain ⟨u2, e2, w2, b2⟩ := ru_open h2
  obtain ⟨A3, n3, cap3, rfl⟩ := okWide_slice Tryz.underlying28 (hval 3 28 v3 rfl rfl)
  have k3 := h3
  have lt3 : ∀ x ∈ p3, x.block < W.heap.size := by obtain ⟨m, hm⟩ := k3; exact DataW.trod_lt m _ _ _ hm
  obtain ⟨u3, e3, w3, b3⟩ := ru_open h3
  obtain ⟨A4, n4, cap4, rfl⟩ := okWide_slice Tryz.underlying28 (hval 4 28 v4 rfl rfl)
  have k4 := h4
  have lt4 : ∀ x ∈ p4, x.block < W.heap.size := by obtain ⟨m, hm⟩ := k4; exact DataW.trod_lt m _ _ _ hm
  obtain ⟨u4, e4, w4, b4⟩ := ru_open h4
  obtain ⟨A5, n5, cap5, rfl⟩ := okWide_slice Tryz.underlying28 (hval 5 28 v5 rfl rfl)
  have k5 := h5
  have lt5 : ∀ x ∈ p5, x.block < W.heap.size := by obtain ⟨m, hm⟩ := k5; exact DataW.trod_lt m _ _ _ hm
  obtain ⟨u5, e5, w5, b5⟩ := ru_open h5
  clear hA0 hval0
  refine (law_ewhole c0 y0 x0 A0 cap0 n0 l0 u1 A2 cap2 n2 u2 A3 cap3 n3 u3 A4 cap4 n4 u4 A5 cap5 n5 u5 W w0 e0 w2 e2 w3 e3 w4 e4 w5 e5).mono fun e W' ⟨he, bel⟩ => ?_
  subst he
  exact ⟨_, rfl, _, _, _, [], _, [], hW', trodAll_mk1 (shut_bool Tryz.underlying4 _), (trodAll_cons_mk (Below.trod Tryz.laidOut (by kernel_rfl) (of_decide_eq_true (by kernel_rfl)) k0 bel lt0) (trodAll_cons_mk (shut_int Tryz.underlying27 w1) (trodAll_cons_mk (Below.trod Tryz.laidOut (by kernel_rfl) (of_decide_eq_true (by kernel_rfl)) k2 bel lt2) (trodAll_cons_mk (Below.trod Tryz.laidOut (by kernel_rfl) (of_decide_eq_true (by kernel_rfl)) k3 bel lt3) (trodAll_cons_mk (Below.trod Tryz.laidOut (by kernel_rfl) (of_decide_eq_true (by kernel_rfl)) k4 bel lt4) (trodAll_cons_mk (Below.trod Tryz.laidOut (by kernel_rfl) (of_decide_eq_true (by kernel_rfl)) k5 bel lt5) trodAll_mk0)))))), rfl, bel.frame _, fun h => by cases h⟩

theorem proved : Rows.EvalWholeSaid :=
  OpenClaim.holds_of_wide 5 Tryz.f5 rfl rfl rfl rfl rfl rfl rfl ⟨rfl, rfl, rfl, rfl, rfl⟩ rfl rfl rfl rfl rfl (by kernel_rfl) Tryz.func5 (by kernel_rfl)
    (of_decide_eq_true (by kernel_rfl)) (by unfold Func.isWrapper; first | (rw [if_pos (by decide +kernel)]; kernel_rfl) | (rw [if_neg (by decide +kernel)]; exact ⟨rfl, rfl⟩))
    (fun os started H enc _ => lifted os started H enc)

end Go.Proofs.YtklgjhldebdegaaGreat.evalWhole

namespace Go.Proofs.YtklgjhldebdegaaGreat
theorem evalWhole_proved : Rows.EvalWholeSaid := evalWhole.proved
#print axioms evalWhole_proved
end Go.Proofs.YtklgjhldebdegaaGreat
