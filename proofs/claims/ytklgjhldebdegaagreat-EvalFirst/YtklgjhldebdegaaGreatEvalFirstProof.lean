/-
  EvalFirst, of any network and any two rows of numbers, returns true, and each argument reads afterwards as it read before; no condition.
-/
import Derived.Test.YtklgjhldebdegaaGreatB17
import Derived.Deep.RegionHeld3
namespace Go.Proofs.YtklgjhldebdegaaGreat
open Go.RowKit

set_option maxHeartbeats 8000000 in
set_option maxRecDepth 100000 in
theorem law_efirst (c h x : Int) (A : Option Addr) (cA n : Nat) (ls : List Ly) (X : Option Addr) (cX nx : Nat) (xs : List UInt64) (U : Option Addr) (cU nu : Nat) (us : List UInt64) (w : World) (hx : Rl w A ls) (ln : n = ls.length) (hX : Rg ucells w X xs) (lX : nx = xs.length) (hU : Rg ucells w U us) (lU : nu = us.length) :
    Calls Tryz.prog 7 #[.agg #[.int .i64 c, .int .i64 h, .int .i64 x, .slice A n cA], .slice X nx cX, .slice U nu cU] w fun e w' => e = .returned (.bool true) ∧ Below w.heap.size w w' := by
  have HRL := Lib.hid hx; have LRL := Lib.hid ln
  have HX := Lib.hid hX; have LX := Lib.hid lX
  have HU := Lib.hid hU; have LU := Lib.hid lU
  clear hx ln hX lX hU lU
  by_cases hg : 60 < n ∨ 3000 < nx ∨ 3000 < nu
  · have hgr : (anyB [⟨X, nx, cX⟩, ⟨U, nu, cU⟩] || decide (60 < (n : Int))) = true := by unfold anyB; simp; omega
    go_enter Tryz.func7, Tryz.ntmps7
    go_wp2_with fail
    refine (head13_any _).mono ?_
    rintro e w1 ⟨rfl, hb⟩
    have B1 := Lib.hid (chain ((Below.refl w.heap.size w).alloc (Nat.le_refl _) _) hb)
    have N1 := Lib.hid ((NB.new w c h x (.slice A n cA)).below hb)
    clear hb
    obtain ⟨c0, c1, c2, c3⟩ := N1.out.cells
    have nl := N1.out.lt
    go_wp2_with fail
    refine (great13 c h x A cA n _ 2 _ [⟨X, nx, cX⟩, ⟨U, nu, cU⟩] _ true hgr (rg_block (heap_alloc_new _ _) rfl) rfl (by decide)).mono ?_
    rintro e w2 ⟨rfl, hb⟩
    replace hb := ((Below.refl w1.heap.size w1).alloc (Nat.le_refl _) _).trans (hb.mono (by simp))
    have B2 := Lib.hid (chain B1.out hb)
    have N2 := Lib.hid (N1.out.below hb)
    clear hb c0 c1 c2 c3 nl B1 N1
    obtain ⟨c0, c1, c2, c3⟩ := N2.out.cells
    have nl := N2.out.lt
    go_wp2_with fail
    go_ret
    exact ⟨rfl, B2.out⟩
  have hgr : (anyB [⟨X, nx, cX⟩, ⟨U, nu, cU⟩] || decide (60 < (n : Int))) = false := by unfold anyB; simp; omega
  have hn60 : n ≤ 60 := by omega
  have hn1 : n ≤ 1000 := by omega
  have bX : nx ≤ 3000 := by omega
  have bU : nu ≤ 3000 := by omega
  clear hg
  by_cases hl : nx = nu
  case neg =>
    have dl : ((nx : Int) != (nu : Int)) = true := by simp; omega
    clear hl
    go_enter Tryz.func7, Tryz.ntmps7
    go_wp2_with fail
    refine (head13_any _).mono ?_
    rintro e w1 ⟨rfl, hb⟩
    have B1 := Lib.hid (chain ((Below.refl w.heap.size w).alloc (Nat.le_refl _) _) hb)
    have N1 := Lib.hid ((NB.new w c h x (.slice A n cA)).below hb)
    clear hb
    obtain ⟨c0, c1, c2, c3⟩ := N1.out.cells
    have nl := N1.out.lt
    go_wp2_with fail
    refine (great13 c h x A cA n _ 2 _ [⟨X, nx, cX⟩, ⟨U, nu, cU⟩] _ false hgr (rg_block (heap_alloc_new _ _) rfl) rfl (by decide)).mono ?_
    rintro e w2 ⟨rfl, hb⟩
    replace hb := ((Below.refl w1.heap.size w1).alloc (Nat.le_refl _) _).trans (hb.mono (by simp))
    have B2 := Lib.hid (chain B1.out hb)
    have N2 := Lib.hid (N1.out.below hb)
    clear hb c0 c1 c2 c3 nl B1 N1
    obtain ⟨c0, c1, c2, c3⟩ := N2.out.cells
    have nl := N2.out.lt
    go_wp2_with fail
    go_ret
    exact ⟨rfl, B2.out⟩
  have dl : ((nx : Int) != (nu : Int)) = false := by simp; omega
  have xu : xs.length = us.length := by rw [← LX.out, ← LU.out]; exact hl
  obtain ⟨fs, hfs⟩ : ∃ q, q = firstU ⟨c, h, x, ls⟩ xs := ⟨_, rfl⟩
  obtain ⟨bf, hbf⟩ : ∃ q, q = okFi ⟨c, h, x, ls⟩ xs := ⟨_, rfl⟩
  have Hfs := Lib.hid hfs; have Hbf := Lib.hid hbf
  obtain ⟨gs, hgs⟩ : ∃ q, q = firstU ⟨c, h, x, ls⟩ us := ⟨_, rfl⟩
  obtain ⟨bg, hbg⟩ : ∃ q, q = okFi ⟨c, h, x, ls⟩ us := ⟨_, rfl⟩
  have Hgs := Lib.hid hgs; have Hbg := Lib.hid hbg
  obtain ⟨es, hes⟩ : ∃ q, q = firstU ⟨c, h, x, ls⟩ (addR xs us) := ⟨_, rfl⟩
  obtain ⟨bk, hbk⟩ : ∃ q, q = okFi ⟨c, h, x, ls⟩ (addR xs us) := ⟨_, rfl⟩
  have Hes := Lib.hid hes; have Hbk := Lib.hid hbk
  have al : (addR xs us).length = xs.length := addU_len xu
  obtain rfl : bg = bf := by rw [hbg, hbf]; unfold okFi; rw [xu]
  obtain rfl : bk = bg := by rw [hbk, hbf]; unfold okFi; rw [al]
  clear hbg hbf Hbg Hbf
  have eCF : bk = okFi ⟨c, h, x, ls⟩ (xs) := by rw [hbk]; unfold okFi; rw [al]
  have CF : Hid (∀ (X : Option Addr) (cX nx : Nat) (w' : World), Rl w' A ls → Rg ucells w' X (xs) → nx = (xs).length → Calls Tryz.prog 11 #[.agg #[.int .i64 c, .int .i64 h, .int .i64 x, .slice A n cA], .slice X nx cX] w' (PairTo fs bk w')) := fun X cX nx w' z0 z1 z2 => by rw [hfs, eCF]; exact first13 c h x A X cA n cX nx ls (xs) w' z0 LRL.out hn60 z1 z2
  clear eCF
  have eCG : bk = okFi ⟨c, h, x, ls⟩ (us) := by rw [hbk]; unfold okFi; rw [al, xu]
  have CG : Hid (∀ (X : Option Addr) (cX nx : Nat) (w' : World), Rl w' A ls → Rg ucells w' X (us) → nx = (us).length → Calls Tryz.prog 11 #[.agg #[.int .i64 c, .int .i64 h, .int .i64 x, .slice A n cA], .slice X nx cX] w' (PairTo gs bk w')) := fun X cX nx w' z0 z1 z2 => by rw [hgs, eCG]; exact first13 c h x A X cA n cX nx ls (us) w' z0 LRL.out hn60 z1 z2
  clear eCG
  have eCH : bk = okFi ⟨c, h, x, ls⟩ (addR xs us) := hbk
  have CH : Hid (∀ (X : Option Addr) (cX nx : Nat) (w' : World), Rl w' A ls → Rg ucells w' X (addR xs us) → nx = (addR xs us).length → Calls Tryz.prog 11 #[.agg #[.int .i64 c, .int .i64 h, .int .i64 x, .slice A n cA], .slice X nx cX] w' (PairTo es bk w')) := fun X cX nx w' z0 z1 z2 => by rw [hes, eCH]; exact first13 c h x A X cA n cX nx ls (addR xs us) w' z0 LRL.out hn60 z1 z2
  clear eCH
  obtain ⟨er, her⟩ : ∃ er, er = errN ⟨c, h, x, ls⟩ := ⟨_, rfl⟩
  have HER := Lib.hid her
  have CRT : Hid (∀ w', Rl w' A ls → Calls Tryz.prog 22 #[.agg #[.int .i64 c, .int .i64 h, .int .i64 x, .slice A n cA]] w' fun e w'' => e = .returned (.bool (er == 0)) ∧ Below w'.heap.size w' w'') := fun w' z0 => by rw [her]; exact rright_of c h x A cA n ls w' z0 LRL.out hn1
  have CIN : Hid (∀ w', Rl w' A ls → Calls Tryz.prog 26 #[.agg #[.int .i64 c, .int .i64 h, .int .i64 x, .slice A n cA], .int .i64 0] w' fun e w'' => e = .returned (.int .i64 (inN ⟨c, h, x, ls⟩ 0)) ∧ Below w'.heap.size w' w'') := fun w' z0 => rin13 c h x A cA n ls 0 w' z0 LRL.out hn60
  have NOF : Hid (okFi ⟨c, h, x, ls⟩ xs = false → fs = []) := fun q => by rw [hfs]; exact if_neg (by rw [q]; decide)
  have BKX : Hid (bk = okFi ⟨c, h, x, ls⟩ xs) := by show _ = _; rw [hbk]; unfold okFi; rw [al]
  by_cases h0 : ¬ er = 0
  · skip
    have b0 : (er == 0) = false := by simpa using h0
    obtain rfl : bk = false := by rw [BKX.out]; exact decide_eq_false fun q => h0 (her.trans q.1)
    have E0 := Lib.hid (NOF.out BKX.out.symm)
    clear h0 hfs hgs hes hbk Hbk her hl xu al
    go_enter Tryz.func7, Tryz.ntmps7
    go_wp2_with fail
    refine (head13_any _).mono ?_
    rintro e w1 ⟨rfl, hb⟩
    have B1 := Lib.hid (chain ((Below.refl w.heap.size w).alloc (Nat.le_refl _) _) hb)
    have N1 := Lib.hid ((NB.new w c h x (.slice A n cA)).below hb)
    clear hb
    obtain ⟨c0, c1, c2, c3⟩ := N1.out.cells
    have nl := N1.out.lt
    go_wp2_with fail
    refine (great13 c h x A cA n _ 2 _ [⟨X, nx, cX⟩, ⟨U, nu, cU⟩] _ false hgr (rg_block (heap_alloc_new _ _) rfl) rfl (by decide)).mono ?_
    rintro e w2 ⟨rfl, hb⟩
    replace hb := ((Below.refl w1.heap.size w1).alloc (Nat.le_refl _) _).trans (hb.mono (by simp))
    have B2 := Lib.hid (chain B1.out hb)
    have N2 := Lib.hid (N1.out.below hb)
    clear hb c0 c1 c2 c3 nl B1 N1
    obtain ⟨c0, c1, c2, c3⟩ := N2.out.cells
    have nl := N2.out.lt
    go_wp2_with fail
    refine (CF.out X cX nx _ (HRL.out.below B2.out) (HX.out.below B2.out) LX.out).mono ?_
    rintro e w3 ⟨Aa, ka, na, rfl, h1, h2, hb, h4, h5⟩
    have Ma := Lib.hid h1; have Qa := Lib.hid h2
    clear h1 h2 h4 h5
    have B3 := Lib.hid (chain B2.out hb)
    have N3 := Lib.hid (N2.out.below hb)
    clear hb c0 c1 c2 c3 nl B2 N2
    obtain ⟨c0, c1, c2, c3⟩ := N3.out.cells
    have nl := N3.out.lt
    go_wp2_with fail
    refine (CG.out U cU nu _ (HRL.out.below B3.out) (HU.out.below B3.out) LU.out).mono ?_
    rintro e w4 ⟨Ab, kb, nb, rfl, h1, h2, hb, h4, h5⟩
    have Mb := Lib.hid h1; have Qb := Lib.hid h2
    clear h1 h2 h4 h5
    have B4 := Lib.hid (chain B3.out hb)
    have N4 := Lib.hid (N3.out.below hb)
    replace Qa := Lib.hid (Qa.out.below hb)
    clear hb c0 c1 c2 c3 nl B3 N3
    obtain ⟨c0, c1, c2, c3⟩ := N4.out.cells
    have nl := N4.out.lt
    go_wp2_with fail
    have nl1 := nl; have nl2 := nl; have nl3 := nl
    refine wp_region_noPanic ?_
    refine wp_region_held_drew (S := fun w' => w'.cell? ⟨w.heap.size, 0, none⟩ = some (.int .i64 c) ∧ w'.cell? ⟨w.heap.size, 1, none⟩ = some (.int .i64 h) ∧ w'.cell? ⟨w.heap.size, 2, none⟩ = some (.int .i64 x) ∧ w'.cell? ⟨w.heap.size, 3, none⟩ = some (.slice A n cA)) (by kernel_rfl) ⟨c0, c1, c2, c3⟩ (fun hHeld => ?_)
    have hd := below_drew w4
    replace c0 := (hd.cell (p := ⟨w.heap.size, 0, none⟩) nl).trans c0
    replace nl := Nat.lt_of_lt_of_le nl hd.size
    replace c1 := (hd.cell (p := ⟨w.heap.size, 1, none⟩) nl1).trans c1
    replace nl1 := Nat.lt_of_lt_of_le nl1 hd.size
    replace c2 := (hd.cell (p := ⟨w.heap.size, 2, none⟩) nl2).trans c2
    replace nl2 := Nat.lt_of_lt_of_le nl2 hd.size
    replace c3 := (hd.cell (p := ⟨w.heap.size, 3, none⟩) nl3).trans c3
    replace nl3 := Nat.lt_of_lt_of_le nl3 hd.size
    generalize w4.drew = wq1 at hHeld hd c0 nl c1 nl1 c2 nl2 c3 nl3 ⊢
    have BD : Hid (Below wq1.heap.size wq1 wq1) := Below.refl _ _
    refine wpAnyH_take (i := 0) (v := ?vv1001) (by simp only [List.getElem?_toArray, List.getElem?_cons_zero]; rfl) (by kernel_rfl) (by kernel_rfl) (by kernel_rfl) (fun _ _ _ h => h) (Or.inl ⟨by rfl, ?yy1001⟩) (by assumption) ?rr1001
    case yy1001 => (intro w hSw; (try dsimp only at hSw); go_simp; first | done | with_reducible rfl)
    simp only [Act.put, List.setIfInBounds_toArray, List.set_cons_zero, List.set_cons_succ]
    refine wpAnyH_take (i := 1) (v := ?vv1002) (by simp only [List.getElem?_toArray, List.getElem?_cons_zero, List.getElem?_cons_succ]; rfl) (by kernel_rfl) (by kernel_rfl) (by kernel_rfl) (fun _ _ _ h => h) (Or.inl ⟨by rfl, ?yy1002⟩) (by assumption) ?rr1002
    case yy1002 => (intro w hSw; (try dsimp only at hSw); go_simp; first | done | with_reducible rfl)
    simp only [Act.put, List.setIfInBounds_toArray, List.set_cons_zero, List.set_cons_succ]
    refine wpAnyH_take (i := 2) (v := ?vv1003) (by simp only [List.getElem?_toArray, List.getElem?_cons_zero, List.getElem?_cons_succ]; rfl) (by kernel_rfl) (by kernel_rfl) (by kernel_rfl) (fun _ _ _ h => h) (Or.inl ⟨by rfl, ?yy1003⟩) (by assumption) ?rr1003
    case yy1003 => (intro w hSw; (try dsimp only at hSw); go_simp; first | done | with_reducible rfl)
    simp only [Act.put, List.setIfInBounds_toArray, List.set_cons_zero, List.set_cons_succ]
    refine wpAnyH_ready (rs := [3]) (by kernel_rfl) (by simp) ?_
    refine AllReadyH.cons (by simp only [List.getElem?_toArray, List.getElem?_cons_zero, List.getElem?_cons_succ]; rfl) (fun K hK => ?_) ?_
    · skip
      go_simp
      go_at_call 19
      (with_reducible refine (nadd X U cX cU nx nu (xs) (us) _ (HX.out.below (chain B4.out (chain hd BD.out))) (HU.out.below (chain B4.out (chain hd BD.out))) LX.out LU.out (by omega)).mono ?_)
      rintro e wq2 ⟨As, ks, ns, rfl, h1, h2, hb, h4, h5, h6⟩
      clear hHeld
      replace BD := Lib.hid (chain BD.out hb)
      have Ms := Lib.hid h1; have Qs := Lib.hid h2
      clear h1 h2 h4 h5 h6
      clear hb
      go_wp2_with fail
      refine hK.out _ _ ⟨(BD.out.cell (p := ⟨w.heap.size, 0, none⟩) nl).trans c0, (BD.out.cell (p := ⟨w.heap.size, 1, none⟩) nl1).trans c1, (BD.out.cell (p := ⟨w.heap.size, 2, none⟩) nl2).trans c2, (BD.out.cell (p := ⟨w.heap.size, 3, none⟩) nl3).trans c3⟩ (fun hHeld => ?_)
      clear hK K
      try simp only [Act.put, List.setIfInBounds_toArray, List.set_cons_zero, List.set_cons_succ]
      refine wpAnyH_ready (rs := [4]) (by kernel_rfl) (by simp) ?_
      refine AllReadyH.cons (by simp only [List.getElem?_toArray, List.getElem?_cons_zero, List.getElem?_cons_succ]; rfl) (fun K hK => ?_) ?_
      · skip
        go_simp
        go_at_call 11
        (with_reducible refine (CH.out As ks ns _ (HRL.out.below (chain B4.out (chain hd BD.out))) Qs.out Ms.out).mono ?_)
        rintro e wq3 ⟨Ac, kc, nc, rfl, h1, h2, hb, h4, h5⟩
        clear hHeld
        replace BD := Lib.hid (chain BD.out hb)
        replace Qs := Lib.hid (Qs.out.below hb)
        have Mc := Lib.hid h1; have Qc := Lib.hid h2
        clear h1 h2 h4 h5
        clear hb
        go_wp2_with fail
        refine hK.out _ _ ⟨(BD.out.cell (p := ⟨w.heap.size, 0, none⟩) nl).trans c0, (BD.out.cell (p := ⟨w.heap.size, 1, none⟩) nl1).trans c1, (BD.out.cell (p := ⟨w.heap.size, 2, none⟩) nl2).trans c2, (BD.out.cell (p := ⟨w.heap.size, 3, none⟩) nl3).trans c3⟩ (fun hHeld => ?_)
        clear hK K
        try simp only [Act.put, List.setIfInBounds_toArray, List.set_cons_zero, List.set_cons_succ]
        refine wpAnyH_take (i := 5) (v := ?vv1004) (by simp only [List.getElem?_toArray, List.getElem?_cons_zero, List.getElem?_cons_succ]; rfl) (by kernel_rfl) (by kernel_rfl) (by kernel_rfl) (fun _ _ _ h => h) (Or.inl ⟨by rfl, ?yy1004⟩) (by assumption) ?rr1004
        case yy1004 => (intro w hSw; (try dsimp only at hSw); go_simp; first | done | with_reducible rfl)
        simp only [Act.put, List.setIfInBounds_toArray, List.set_cons_zero, List.set_cons_succ]
        refine wpAnyH_take (i := 6) (v := ?vv1005) (by simp only [List.getElem?_toArray, List.getElem?_cons_zero, List.getElem?_cons_succ]; rfl) (by kernel_rfl) (by kernel_rfl) (by kernel_rfl) (fun _ _ _ h => h) (Or.inl ⟨by rfl, ?yy1005⟩) (by assumption) ?rr1005
        case yy1005 => (intro w hSw; (try dsimp only at hSw); go_simp; first | done | with_reducible rfl)
        simp only [Act.put, List.setIfInBounds_toArray, List.set_cons_zero, List.set_cons_succ]
        refine wpAnyH_take (i := 7) (v := ?vv1006) (by simp only [List.getElem?_toArray, List.getElem?_cons_zero, List.getElem?_cons_succ]; rfl) (by kernel_rfl) (by kernel_rfl) (by kernel_rfl) (fun _ _ _ h => h) (Or.inl ⟨by rfl, ?yy1006⟩) (by assumption) ?rr1006
        case yy1006 => (intro w hSw; (try dsimp only at hSw); go_simp; first | done | with_reducible rfl)
        simp only [Act.put, List.setIfInBounds_toArray, List.set_cons_zero, List.set_cons_succ]
        refine wpAnyH_take (i := 8) (v := ?vv1007) (by simp only [List.getElem?_toArray, List.getElem?_cons_zero, List.getElem?_cons_succ]; rfl) (by kernel_rfl) (by kernel_rfl) (by kernel_rfl) (fun _ _ _ h => h) (Or.inl ⟨by rfl, ?yy1007⟩) (by assumption) ?rr1007
        case yy1007 => (intro w hSw; (try dsimp only at hSw); go_simp; first | done | with_reducible rfl)
        simp only [Act.put, List.setIfInBounds_toArray, List.set_cons_zero, List.set_cons_succ]
        refine wpAnyH_take (i := 9) (v := ?vv1008) (by simp only [List.getElem?_toArray, List.getElem?_cons_zero, List.getElem?_cons_succ]; rfl) (by kernel_rfl) (by kernel_rfl) (by kernel_rfl) (fun _ _ _ h => h) (Or.inl ⟨by rfl, ?yy1008⟩) (by assumption) ?rr1008
        case yy1008 => (intro w hSw; (try dsimp only at hSw); go_simp; first | done | with_reducible rfl)
        simp only [Act.put, List.setIfInBounds_toArray, List.set_cons_zero, List.set_cons_succ]
        refine wpAnyH_done (by kernel_rfl) ?_ _
        refine NoPanic.normal ?_
        clear hHeld
        have hb := chain hd BD.out
        obtain ⟨w5, hW9⟩ : ∃ W, W = wq3 := ⟨_, rfl⟩
        rw [← hW9] at hb Qc ⊢
        clear hW9 hd BD Qs Ms nl1 nl2 nl3
        have B5 := Lib.hid (chain B4.out hb)
        have N5 := Lib.hid (N4.out.below hb)
        replace Qa := Lib.hid (Qa.out.below hb)
        replace Qb := Lib.hid (Qb.out.below hb)
        clear hb c0 c1 c2 c3 nl B4 N4
        obtain ⟨c0, c1, c2, c3⟩ := N5.out.cells
        have nl := N5.out.lt
        obtain rfl : na = 0 := by rw [Ma.out, E0.out]; rfl
        go_wp2_with fail
        refine (CRT.out _ (HRL.out.below B5.out)).mono ?_
        rintro e w6 ⟨rfl, hb⟩
        have B6 := Lib.hid (chain B5.out hb)
        have N6 := Lib.hid (N5.out.below hb)
        replace Qa := Lib.hid (Qa.out.below hb)
        replace Qb := Lib.hid (Qb.out.below hb)
        replace Qc := Lib.hid (Qc.out.below hb)
        clear hb c0 c1 c2 c3 nl B5 N5
        obtain ⟨c0, c1, c2, c3⟩ := N6.out.cells
        have nl := N6.out.lt
        go_wp2_with fail
        go_ret
        exact ⟨rfl, B6.out⟩
      exact AllReadyH.nil
    exact AllReadyH.nil
  have h0 : er = 0 := by omega
  have b0 : (er == 0) = true := by rw [h0]; rfl
  have he : errN ⟨c, h, x, ls⟩ = 0 := her.symm.trans h0
  obtain ⟨rr, f3, _⟩ := ok_all he
  have rr : (⟨c, h, x⟩ : Sh).r = true := rr
  obtain ⟨p1, p2, p3, p4, p5, p6, p7⟩ := right_bd rr
  have kq := Sh.n_eq rr
  obtain ⟨kn, hkn⟩ : ∃ kn, kn = (⟨c, h, x⟩ : Sh).n := ⟨_, rfl⟩
  rw [← hkn] at kq
  have p1 : 1 ≤ c := p1
  have p2 : c ≤ 8 := p2
  have p3 : 1 ≤ h := p3
  have p4 : h ≤ 12 := p4
  have p7 : c * h * x ≤ 128 := p7
  have kq : kn = c * h * x := kq
  have KQ := Lib.hid kq
  have m1 := mul_bd (show 0 ≤ c by omega) p2 (show 0 ≤ h by omega) p4
  obtain ⟨ch, hch⟩ : ∃ ch, ch = c * h := ⟨_, rfl⟩
  rw [← hch] at m1 p7 kq
  have kp : 1 ≤ kn := by rw [hkn]; exact size_pos rr
  have v1 : IntKind.i64.wrap (c * h) = ch := by rw [IntWalk.i64_in _ (by omega)]; exact hch.symm
  have v2 : IntKind.i64.wrap (ch * x) = kn := by rw [IntWalk.i64_in _ (by omega)]; exact kq.symm
  have v3 : wrap64 (c * h) = ch := by rw [IntWalk.wrap64_in _ (by omega)]; exact hch.symm
  have v4 : wrap64 (ch * x) = kn := by rw [IntWalk.wrap64_in _ (by omega)]; exact kq.symm
  have V1 := Lib.hid v1; have V2 := Lib.hid v2; have V3 := Lib.hid v3; have V4 := Lib.hid v4; have HKN := Lib.hid hkn; have HE := Lib.hid he
  clear v1 v2 v3 v4 m1 hch kq p1 p2 p3 p4 p5 p6 p7 rr f3 h0 kp hkn
  by_cases hk : ¬ (nx : Int) = kn
  · skip
    have b1 : ((nx : Int) == kn) = false := by simpa using hk
    have b3 : ((nx : Int) == c * h * x) = false := by rw [← KQ.out]; exact b1
    have b4 : ((nx : Int) != c * h * x) = true := by rw [← KQ.out]; simpa using hk
    obtain rfl : bk = false := by rw [BKX.out]; exact decide_eq_false fun q => hk (by rw [LX.out, HKN.out]; exact q.2)
    have E0 := Lib.hid (NOF.out BKX.out.symm)
    clear hk hfs hgs hes hbk Hbk her hl xu al he
    go_enter Tryz.func7, Tryz.ntmps7
    go_wp2_with fail
    refine (head13_any _).mono ?_
    rintro e w1 ⟨rfl, hb⟩
    have B1 := Lib.hid (chain ((Below.refl w.heap.size w).alloc (Nat.le_refl _) _) hb)
    have N1 := Lib.hid ((NB.new w c h x (.slice A n cA)).below hb)
    clear hb
    obtain ⟨c0, c1, c2, c3⟩ := N1.out.cells
    have nl := N1.out.lt
    go_wp2_with fail
    refine (great13 c h x A cA n _ 2 _ [⟨X, nx, cX⟩, ⟨U, nu, cU⟩] _ false hgr (rg_block (heap_alloc_new _ _) rfl) rfl (by decide)).mono ?_
    rintro e w2 ⟨rfl, hb⟩
    replace hb := ((Below.refl w1.heap.size w1).alloc (Nat.le_refl _) _).trans (hb.mono (by simp))
    have B2 := Lib.hid (chain B1.out hb)
    have N2 := Lib.hid (N1.out.below hb)
    clear hb c0 c1 c2 c3 nl B1 N1
    obtain ⟨c0, c1, c2, c3⟩ := N2.out.cells
    have nl := N2.out.lt
    go_wp2_with fail
    refine (CF.out X cX nx _ (HRL.out.below B2.out) (HX.out.below B2.out) LX.out).mono ?_
    rintro e w3 ⟨Aa, ka, na, rfl, h1, h2, hb, h4, h5⟩
    have Ma := Lib.hid h1; have Qa := Lib.hid h2
    clear h1 h2 h4 h5
    have B3 := Lib.hid (chain B2.out hb)
    have N3 := Lib.hid (N2.out.below hb)
    clear hb c0 c1 c2 c3 nl B2 N2
    obtain ⟨c0, c1, c2, c3⟩ := N3.out.cells
    have nl := N3.out.lt
    go_wp2_with fail
    refine (CG.out U cU nu _ (HRL.out.below B3.out) (HU.out.below B3.out) LU.out).mono ?_
    rintro e w4 ⟨Ab, kb, nb, rfl, h1, h2, hb, h4, h5⟩
    have Mb := Lib.hid h1; have Qb := Lib.hid h2
    clear h1 h2 h4 h5
    have B4 := Lib.hid (chain B3.out hb)
    have N4 := Lib.hid (N3.out.below hb)
    replace Qa := Lib.hid (Qa.out.below hb)
    clear hb c0 c1 c2 c3 nl B3 N3
    obtain ⟨c0, c1, c2, c3⟩ := N4.out.cells
    have nl := N4.out.lt
    go_wp2_with fail
    have nl1 := nl; have nl2 := nl; have nl3 := nl
    refine wp_region_noPanic ?_
    refine wp_region_held_drew (S := fun w' => w'.cell? ⟨w.heap.size, 0, none⟩ = some (.int .i64 c) ∧ w'.cell? ⟨w.heap.size, 1, none⟩ = some (.int .i64 h) ∧ w'.cell? ⟨w.heap.size, 2, none⟩ = some (.int .i64 x) ∧ w'.cell? ⟨w.heap.size, 3, none⟩ = some (.slice A n cA)) (by kernel_rfl) ⟨c0, c1, c2, c3⟩ (fun hHeld => ?_)
    have hd := below_drew w4
    replace c0 := (hd.cell (p := ⟨w.heap.size, 0, none⟩) nl).trans c0
    replace nl := Nat.lt_of_lt_of_le nl hd.size
    replace c1 := (hd.cell (p := ⟨w.heap.size, 1, none⟩) nl1).trans c1
    replace nl1 := Nat.lt_of_lt_of_le nl1 hd.size
    replace c2 := (hd.cell (p := ⟨w.heap.size, 2, none⟩) nl2).trans c2
    replace nl2 := Nat.lt_of_lt_of_le nl2 hd.size
    replace c3 := (hd.cell (p := ⟨w.heap.size, 3, none⟩) nl3).trans c3
    replace nl3 := Nat.lt_of_lt_of_le nl3 hd.size
    generalize w4.drew = wq1 at hHeld hd c0 nl c1 nl1 c2 nl2 c3 nl3 ⊢
    have BD : Hid (Below wq1.heap.size wq1 wq1) := Below.refl _ _
    refine wpAnyH_take (i := 0) (v := ?vv2001) (by simp only [List.getElem?_toArray, List.getElem?_cons_zero]; rfl) (by kernel_rfl) (by kernel_rfl) (by kernel_rfl) (fun _ _ _ h => h) (Or.inl ⟨by rfl, ?yy2001⟩) (by assumption) ?rr2001
    case yy2001 => (intro w hSw; (try dsimp only at hSw); go_simp; first | done | with_reducible rfl)
    simp only [Act.put, List.setIfInBounds_toArray, List.set_cons_zero, List.set_cons_succ]
    refine wpAnyH_take (i := 1) (v := ?vv2002) (by simp only [List.getElem?_toArray, List.getElem?_cons_zero, List.getElem?_cons_succ]; rfl) (by kernel_rfl) (by kernel_rfl) (by kernel_rfl) (fun _ _ _ h => h) (Or.inl ⟨by rfl, ?yy2002⟩) (by assumption) ?rr2002
    case yy2002 => (intro w hSw; (try dsimp only at hSw); go_simp; first | done | with_reducible rfl)
    simp only [Act.put, List.setIfInBounds_toArray, List.set_cons_zero, List.set_cons_succ]
    refine wpAnyH_take (i := 2) (v := ?vv2003) (by simp only [List.getElem?_toArray, List.getElem?_cons_zero, List.getElem?_cons_succ]; rfl) (by kernel_rfl) (by kernel_rfl) (by kernel_rfl) (fun _ _ _ h => h) (Or.inl ⟨by rfl, ?yy2003⟩) (by assumption) ?rr2003
    case yy2003 => (intro w hSw; (try dsimp only at hSw); go_simp; first | done | with_reducible rfl)
    simp only [Act.put, List.setIfInBounds_toArray, List.set_cons_zero, List.set_cons_succ]
    refine wpAnyH_ready (rs := [3]) (by kernel_rfl) (by simp) ?_
    refine AllReadyH.cons (by simp only [List.getElem?_toArray, List.getElem?_cons_zero, List.getElem?_cons_succ]; rfl) (fun K hK => ?_) ?_
    · skip
      go_simp
      go_at_call 19
      (with_reducible refine (nadd X U cX cU nx nu (xs) (us) _ (HX.out.below (chain B4.out (chain hd BD.out))) (HU.out.below (chain B4.out (chain hd BD.out))) LX.out LU.out (by omega)).mono ?_)
      rintro e wq2 ⟨As, ks, ns, rfl, h1, h2, hb, h4, h5, h6⟩
      clear hHeld
      replace BD := Lib.hid (chain BD.out hb)
      have Ms := Lib.hid h1; have Qs := Lib.hid h2
      clear h1 h2 h4 h5 h6
      clear hb
      go_wp2_with fail
      refine hK.out _ _ ⟨(BD.out.cell (p := ⟨w.heap.size, 0, none⟩) nl).trans c0, (BD.out.cell (p := ⟨w.heap.size, 1, none⟩) nl1).trans c1, (BD.out.cell (p := ⟨w.heap.size, 2, none⟩) nl2).trans c2, (BD.out.cell (p := ⟨w.heap.size, 3, none⟩) nl3).trans c3⟩ (fun hHeld => ?_)
      clear hK K
      try simp only [Act.put, List.setIfInBounds_toArray, List.set_cons_zero, List.set_cons_succ]
      refine wpAnyH_ready (rs := [4]) (by kernel_rfl) (by simp) ?_
      refine AllReadyH.cons (by simp only [List.getElem?_toArray, List.getElem?_cons_zero, List.getElem?_cons_succ]; rfl) (fun K hK => ?_) ?_
      · skip
        go_simp
        go_at_call 11
        (with_reducible refine (CH.out As ks ns _ (HRL.out.below (chain B4.out (chain hd BD.out))) Qs.out Ms.out).mono ?_)
        rintro e wq3 ⟨Ac, kc, nc, rfl, h1, h2, hb, h4, h5⟩
        clear hHeld
        replace BD := Lib.hid (chain BD.out hb)
        replace Qs := Lib.hid (Qs.out.below hb)
        have Mc := Lib.hid h1; have Qc := Lib.hid h2
        clear h1 h2 h4 h5
        clear hb
        go_wp2_with fail
        refine hK.out _ _ ⟨(BD.out.cell (p := ⟨w.heap.size, 0, none⟩) nl).trans c0, (BD.out.cell (p := ⟨w.heap.size, 1, none⟩) nl1).trans c1, (BD.out.cell (p := ⟨w.heap.size, 2, none⟩) nl2).trans c2, (BD.out.cell (p := ⟨w.heap.size, 3, none⟩) nl3).trans c3⟩ (fun hHeld => ?_)
        clear hK K
        try simp only [Act.put, List.setIfInBounds_toArray, List.set_cons_zero, List.set_cons_succ]
        refine wpAnyH_take (i := 5) (v := ?vv2004) (by simp only [List.getElem?_toArray, List.getElem?_cons_zero, List.getElem?_cons_succ]; rfl) (by kernel_rfl) (by kernel_rfl) (by kernel_rfl) (fun _ _ _ h => h) (Or.inl ⟨by rfl, ?yy2004⟩) (by assumption) ?rr2004
        case yy2004 => (intro w hSw; (try dsimp only at hSw); go_simp; first | done | with_reducible rfl)
        simp only [Act.put, List.setIfInBounds_toArray, List.set_cons_zero, List.set_cons_succ]
        refine wpAnyH_take (i := 6) (v := ?vv2005) (by simp only [List.getElem?_toArray, List.getElem?_cons_zero, List.getElem?_cons_succ]; rfl) (by kernel_rfl) (by kernel_rfl) (by kernel_rfl) (fun _ _ _ h => h) (Or.inl ⟨by rfl, ?yy2005⟩) (by assumption) ?rr2005
        case yy2005 => (intro w hSw; (try dsimp only at hSw); go_simp; first | done | with_reducible rfl)
        simp only [Act.put, List.setIfInBounds_toArray, List.set_cons_zero, List.set_cons_succ]
        refine wpAnyH_take (i := 7) (v := ?vv2006) (by simp only [List.getElem?_toArray, List.getElem?_cons_zero, List.getElem?_cons_succ]; rfl) (by kernel_rfl) (by kernel_rfl) (by kernel_rfl) (fun _ _ _ h => h) (Or.inl ⟨by rfl, ?yy2006⟩) (by assumption) ?rr2006
        case yy2006 => (intro w hSw; (try dsimp only at hSw); go_simp; first | done | with_reducible rfl)
        simp only [Act.put, List.setIfInBounds_toArray, List.set_cons_zero, List.set_cons_succ]
        refine wpAnyH_take (i := 8) (v := ?vv2007) (by simp only [List.getElem?_toArray, List.getElem?_cons_zero, List.getElem?_cons_succ]; rfl) (by kernel_rfl) (by kernel_rfl) (by kernel_rfl) (fun _ _ _ h => h) (Or.inl ⟨by rfl, ?yy2007⟩) (by assumption) ?rr2007
        case yy2007 => (intro w hSw; (try dsimp only at hSw); go_simp; first | done | with_reducible rfl)
        simp only [Act.put, List.setIfInBounds_toArray, List.set_cons_zero, List.set_cons_succ]
        refine wpAnyH_take (i := 9) (v := ?vv2008) (by simp only [List.getElem?_toArray, List.getElem?_cons_zero, List.getElem?_cons_succ]; rfl) (by kernel_rfl) (by kernel_rfl) (by kernel_rfl) (fun _ _ _ h => h) (Or.inl ⟨by rfl, ?yy2008⟩) (by assumption) ?rr2008
        case yy2008 => (intro w hSw; (try dsimp only at hSw); go_simp; first | done | with_reducible rfl)
        simp only [Act.put, List.setIfInBounds_toArray, List.set_cons_zero, List.set_cons_succ]
        refine wpAnyH_done (by kernel_rfl) ?_ _
        refine NoPanic.normal ?_
        clear hHeld
        have hb := chain hd BD.out
        obtain ⟨w5, hW9⟩ : ∃ W, W = wq3 := ⟨_, rfl⟩
        rw [← hW9] at hb Qc ⊢
        clear hW9 hd BD Qs Ms nl1 nl2 nl3
        have B5 := Lib.hid (chain B4.out hb)
        have N5 := Lib.hid (N4.out.below hb)
        replace Qa := Lib.hid (Qa.out.below hb)
        replace Qb := Lib.hid (Qb.out.below hb)
        clear hb c0 c1 c2 c3 nl B4 N4
        obtain ⟨c0, c1, c2, c3⟩ := N5.out.cells
        have nl := N5.out.lt
        obtain rfl : na = 0 := by rw [Ma.out, E0.out]; rfl
        go_wp2_with fail
        refine (CRT.out _ (HRL.out.below B5.out)).mono ?_
        rintro e w6 ⟨rfl, hb⟩
        have B6 := Lib.hid (chain B5.out hb)
        have N6 := Lib.hid (N5.out.below hb)
        replace Qa := Lib.hid (Qa.out.below hb)
        replace Qb := Lib.hid (Qb.out.below hb)
        replace Qc := Lib.hid (Qc.out.below hb)
        clear hb c0 c1 c2 c3 nl B5 N5
        obtain ⟨c0, c1, c2, c3⟩ := N6.out.cells
        have nl := N6.out.lt
        have v1 := V1.out; have v2 := V2.out; have v3 := V3.out; have v4 := V4.out
        go_wp2_with fail
        go_ret
        exact ⟨rfl, B6.out⟩
      exact AllReadyH.nil
    exact AllReadyH.nil
  have hk : (nx : Int) = kn := Decidable.not_not.1 hk
  have b1 : ((nx : Int) == kn) = true := by simp [hk]
  have b3 : ((nx : Int) == c * h * x) = true := by rw [← KQ.out]; exact b1
  have b4 : ((nx : Int) != c * h * x) = false := by rw [← KQ.out]; simp [hk]
  have ox : okFi ⟨c, h, x, ls⟩ xs = true := decide_eq_true ⟨he, by rw [← LX.out, hk]; exact HKN.out⟩
  have ou : okFi ⟨c, h, x, ls⟩ us = true := by unfold okFi at ox ⊢; rw [← xu]; exact ox
  have oa : okFi ⟨c, h, x, ls⟩ (addR xs us) = true := by unfold okFi at ox ⊢; rw [al]; exact ox
  obtain rfl : bk = true := by rw [BKX.out]; exact ox
  have SUM : Hid (es = addR fs gs) := by
    show _ = _
    rw [hes, hfs, hgs]
    unfold firstU
    rw [if_pos ox, if_pos ou, if_pos oa]
    exact (pools_add he ls.length 0 xs us (by omega) (by omega) xu).1
  have FX : Hid (ls.length = 0 ∨ ¬ (ls.getD 0 Ly.z).k = 3 → fs = xs) := fun q => by
    rw [hfs]
    unfold firstU
    rw [if_pos ox]
    by_cases l0 : ls.length = 0
    · exact pools_end (N := ⟨c, h, x, ls⟩) (by show ls.length ≤ 0; omega) xs
    · exact pools_here (N := ⟨c, h, x, ls⟩) (by show 0 < ls.length; omega) (q.resolve_left l0) xs
  have INL : Hid (inN ⟨c, h, x, ls⟩ 0 = (fs.length : Int)) := by
    show _ = _
    rw [hfs]
    exact (first_len ox).symm
  have FB : Hid (fs.length ≤ 128 ∧ es.length ≤ 128) := ⟨by rw [hfs]; exact first_bd _ _, by rw [hes]; exact first_bd _ _⟩
  clear hfs hgs hes hbk Hbk her hl xu al he ox ou oa hk
  by_cases n0 : n = 0
  · skip
    have FR : Hid (ls.length = 0 ∨ ¬ (ls.getD 0 Ly.z).k = 3) := .inl (by rw [← LRL.out]; exact n0)
    have dn : decide (0 < n) = false := decide_eq_false (by omega)
    clear n0
    go_enter Tryz.func7, Tryz.ntmps7
    go_wp2_with fail
    refine (head13_any _).mono ?_
    rintro e w1 ⟨rfl, hb⟩
    have B1 := Lib.hid (chain ((Below.refl w.heap.size w).alloc (Nat.le_refl _) _) hb)
    have N1 := Lib.hid ((NB.new w c h x (.slice A n cA)).below hb)
    clear hb
    obtain ⟨c0, c1, c2, c3⟩ := N1.out.cells
    have nl := N1.out.lt
    go_wp2_with fail
    refine (great13 c h x A cA n _ 2 _ [⟨X, nx, cX⟩, ⟨U, nu, cU⟩] _ false hgr (rg_block (heap_alloc_new _ _) rfl) rfl (by decide)).mono ?_
    rintro e w2 ⟨rfl, hb⟩
    replace hb := ((Below.refl w1.heap.size w1).alloc (Nat.le_refl _) _).trans (hb.mono (by simp))
    have B2 := Lib.hid (chain B1.out hb)
    have N2 := Lib.hid (N1.out.below hb)
    clear hb c0 c1 c2 c3 nl B1 N1
    obtain ⟨c0, c1, c2, c3⟩ := N2.out.cells
    have nl := N2.out.lt
    go_wp2_with fail
    refine (CF.out X cX nx _ (HRL.out.below B2.out) (HX.out.below B2.out) LX.out).mono ?_
    rintro e w3 ⟨Aa, ka, na, rfl, h1, h2, hb, h4, h5⟩
    have Ma := Lib.hid h1; have Qa := Lib.hid h2
    clear h1 h2 h4 h5
    have B3 := Lib.hid (chain B2.out hb)
    have N3 := Lib.hid (N2.out.below hb)
    clear hb c0 c1 c2 c3 nl B2 N2
    obtain ⟨c0, c1, c2, c3⟩ := N3.out.cells
    have nl := N3.out.lt
    go_wp2_with fail
    refine (CG.out U cU nu _ (HRL.out.below B3.out) (HU.out.below B3.out) LU.out).mono ?_
    rintro e w4 ⟨Ab, kb, nb, rfl, h1, h2, hb, h4, h5⟩
    have Mb := Lib.hid h1; have Qb := Lib.hid h2
    clear h1 h2 h4 h5
    have B4 := Lib.hid (chain B3.out hb)
    have N4 := Lib.hid (N3.out.below hb)
    replace Qa := Lib.hid (Qa.out.below hb)
    clear hb c0 c1 c2 c3 nl B3 N3
    obtain ⟨c0, c1, c2, c3⟩ := N4.out.cells
    have nl := N4.out.lt
    go_wp2_with fail
    have nl1 := nl; have nl2 := nl; have nl3 := nl
    refine wp_region_noPanic ?_
    refine wp_region_held_drew (S := fun w' => w'.cell? ⟨w.heap.size, 0, none⟩ = some (.int .i64 c) ∧ w'.cell? ⟨w.heap.size, 1, none⟩ = some (.int .i64 h) ∧ w'.cell? ⟨w.heap.size, 2, none⟩ = some (.int .i64 x) ∧ w'.cell? ⟨w.heap.size, 3, none⟩ = some (.slice A n cA)) (by kernel_rfl) ⟨c0, c1, c2, c3⟩ (fun hHeld => ?_)
    have hd := below_drew w4
    replace c0 := (hd.cell (p := ⟨w.heap.size, 0, none⟩) nl).trans c0
    replace nl := Nat.lt_of_lt_of_le nl hd.size
    replace c1 := (hd.cell (p := ⟨w.heap.size, 1, none⟩) nl1).trans c1
    replace nl1 := Nat.lt_of_lt_of_le nl1 hd.size
    replace c2 := (hd.cell (p := ⟨w.heap.size, 2, none⟩) nl2).trans c2
    replace nl2 := Nat.lt_of_lt_of_le nl2 hd.size
    replace c3 := (hd.cell (p := ⟨w.heap.size, 3, none⟩) nl3).trans c3
    replace nl3 := Nat.lt_of_lt_of_le nl3 hd.size
    generalize w4.drew = wq1 at hHeld hd c0 nl c1 nl1 c2 nl2 c3 nl3 ⊢
    have BD : Hid (Below wq1.heap.size wq1 wq1) := Below.refl _ _
    refine wpAnyH_take (i := 0) (v := ?vv3001) (by simp only [List.getElem?_toArray, List.getElem?_cons_zero]; rfl) (by kernel_rfl) (by kernel_rfl) (by kernel_rfl) (fun _ _ _ h => h) (Or.inl ⟨by rfl, ?yy3001⟩) (by assumption) ?rr3001
    case yy3001 => (intro w hSw; (try dsimp only at hSw); go_simp; first | done | with_reducible rfl)
    simp only [Act.put, List.setIfInBounds_toArray, List.set_cons_zero, List.set_cons_succ]
    refine wpAnyH_take (i := 1) (v := ?vv3002) (by simp only [List.getElem?_toArray, List.getElem?_cons_zero, List.getElem?_cons_succ]; rfl) (by kernel_rfl) (by kernel_rfl) (by kernel_rfl) (fun _ _ _ h => h) (Or.inl ⟨by rfl, ?yy3002⟩) (by assumption) ?rr3002
    case yy3002 => (intro w hSw; (try dsimp only at hSw); go_simp; first | done | with_reducible rfl)
    simp only [Act.put, List.setIfInBounds_toArray, List.set_cons_zero, List.set_cons_succ]
    refine wpAnyH_take (i := 2) (v := ?vv3003) (by simp only [List.getElem?_toArray, List.getElem?_cons_zero, List.getElem?_cons_succ]; rfl) (by kernel_rfl) (by kernel_rfl) (by kernel_rfl) (fun _ _ _ h => h) (Or.inl ⟨by rfl, ?yy3003⟩) (by assumption) ?rr3003
    case yy3003 => (intro w hSw; (try dsimp only at hSw); go_simp; first | done | with_reducible rfl)
    simp only [Act.put, List.setIfInBounds_toArray, List.set_cons_zero, List.set_cons_succ]
    refine wpAnyH_ready (rs := [3]) (by kernel_rfl) (by simp) ?_
    refine AllReadyH.cons (by simp only [List.getElem?_toArray, List.getElem?_cons_zero, List.getElem?_cons_succ]; rfl) (fun K hK => ?_) ?_
    · skip
      go_simp
      go_at_call 19
      (with_reducible refine (nadd X U cX cU nx nu (xs) (us) _ (HX.out.below (chain B4.out (chain hd BD.out))) (HU.out.below (chain B4.out (chain hd BD.out))) LX.out LU.out (by omega)).mono ?_)
      rintro e wq2 ⟨As, ks, ns, rfl, h1, h2, hb, h4, h5, h6⟩
      clear hHeld
      replace BD := Lib.hid (chain BD.out hb)
      have Ms := Lib.hid h1; have Qs := Lib.hid h2
      clear h1 h2 h4 h5 h6
      clear hb
      go_wp2_with fail
      refine hK.out _ _ ⟨(BD.out.cell (p := ⟨w.heap.size, 0, none⟩) nl).trans c0, (BD.out.cell (p := ⟨w.heap.size, 1, none⟩) nl1).trans c1, (BD.out.cell (p := ⟨w.heap.size, 2, none⟩) nl2).trans c2, (BD.out.cell (p := ⟨w.heap.size, 3, none⟩) nl3).trans c3⟩ (fun hHeld => ?_)
      clear hK K
      try simp only [Act.put, List.setIfInBounds_toArray, List.set_cons_zero, List.set_cons_succ]
      refine wpAnyH_ready (rs := [4]) (by kernel_rfl) (by simp) ?_
      refine AllReadyH.cons (by simp only [List.getElem?_toArray, List.getElem?_cons_zero, List.getElem?_cons_succ]; rfl) (fun K hK => ?_) ?_
      · skip
        go_simp
        go_at_call 11
        (with_reducible refine (CH.out As ks ns _ (HRL.out.below (chain B4.out (chain hd BD.out))) Qs.out Ms.out).mono ?_)
        rintro e wq3 ⟨Ac, kc, nc, rfl, h1, h2, hb, h4, h5⟩
        clear hHeld
        replace BD := Lib.hid (chain BD.out hb)
        replace Qs := Lib.hid (Qs.out.below hb)
        have Mc := Lib.hid h1; have Qc := Lib.hid h2
        clear h1 h2 h4 h5
        clear hb
        go_wp2_with fail
        refine hK.out _ _ ⟨(BD.out.cell (p := ⟨w.heap.size, 0, none⟩) nl).trans c0, (BD.out.cell (p := ⟨w.heap.size, 1, none⟩) nl1).trans c1, (BD.out.cell (p := ⟨w.heap.size, 2, none⟩) nl2).trans c2, (BD.out.cell (p := ⟨w.heap.size, 3, none⟩) nl3).trans c3⟩ (fun hHeld => ?_)
        clear hK K
        try simp only [Act.put, List.setIfInBounds_toArray, List.set_cons_zero, List.set_cons_succ]
        refine wpAnyH_take (i := 5) (v := ?vv3004) (by simp only [List.getElem?_toArray, List.getElem?_cons_zero, List.getElem?_cons_succ]; rfl) (by kernel_rfl) (by kernel_rfl) (by kernel_rfl) (fun _ _ _ h => h) (Or.inl ⟨by rfl, ?yy3004⟩) (by assumption) ?rr3004
        case yy3004 => (intro w hSw; (try dsimp only at hSw); go_simp; first | done | with_reducible rfl)
        simp only [Act.put, List.setIfInBounds_toArray, List.set_cons_zero, List.set_cons_succ]
        refine wpAnyH_take (i := 6) (v := ?vv3005) (by simp only [List.getElem?_toArray, List.getElem?_cons_zero, List.getElem?_cons_succ]; rfl) (by kernel_rfl) (by kernel_rfl) (by kernel_rfl) (fun _ _ _ h => h) (Or.inl ⟨by rfl, ?yy3005⟩) (by assumption) ?rr3005
        case yy3005 => (intro w hSw; (try dsimp only at hSw); go_simp; first | done | with_reducible rfl)
        simp only [Act.put, List.setIfInBounds_toArray, List.set_cons_zero, List.set_cons_succ]
        refine wpAnyH_take (i := 7) (v := ?vv3006) (by simp only [List.getElem?_toArray, List.getElem?_cons_zero, List.getElem?_cons_succ]; rfl) (by kernel_rfl) (by kernel_rfl) (by kernel_rfl) (fun _ _ _ h => h) (Or.inl ⟨by rfl, ?yy3006⟩) (by assumption) ?rr3006
        case yy3006 => (intro w hSw; (try dsimp only at hSw); go_simp; first | done | with_reducible rfl)
        simp only [Act.put, List.setIfInBounds_toArray, List.set_cons_zero, List.set_cons_succ]
        refine wpAnyH_take (i := 8) (v := ?vv3007) (by simp only [List.getElem?_toArray, List.getElem?_cons_zero, List.getElem?_cons_succ]; rfl) (by kernel_rfl) (by kernel_rfl) (by kernel_rfl) (fun _ _ _ h => h) (Or.inl ⟨by rfl, ?yy3007⟩) (by assumption) ?rr3007
        case yy3007 => (intro w hSw; (try dsimp only at hSw); go_simp; first | done | with_reducible rfl)
        simp only [Act.put, List.setIfInBounds_toArray, List.set_cons_zero, List.set_cons_succ]
        refine wpAnyH_take (i := 9) (v := ?vv3008) (by simp only [List.getElem?_toArray, List.getElem?_cons_zero, List.getElem?_cons_succ]; rfl) (by kernel_rfl) (by kernel_rfl) (by kernel_rfl) (fun _ _ _ h => h) (Or.inl ⟨by rfl, ?yy3008⟩) (by assumption) ?rr3008
        case yy3008 => (intro w hSw; (try dsimp only at hSw); go_simp; first | done | with_reducible rfl)
        simp only [Act.put, List.setIfInBounds_toArray, List.set_cons_zero, List.set_cons_succ]
        refine wpAnyH_done (by kernel_rfl) ?_ _
        refine NoPanic.normal ?_
        clear hHeld
        have hb := chain hd BD.out
        obtain ⟨w5, hW9⟩ : ∃ W, W = wq3 := ⟨_, rfl⟩
        rw [← hW9] at hb Qc ⊢
        clear hW9 hd BD Qs Ms nl1 nl2 nl3
        have B5 := Lib.hid (chain B4.out hb)
        have N5 := Lib.hid (N4.out.below hb)
        replace Qa := Lib.hid (Qa.out.below hb)
        replace Qb := Lib.hid (Qb.out.below hb)
        clear hb c0 c1 c2 c3 nl B4 N4
        obtain ⟨c0, c1, c2, c3⟩ := N5.out.cells
        have nl := N5.out.lt
        go_wp2_with fail
        refine (CRT.out _ (HRL.out.below B5.out)).mono ?_
        rintro e w6 ⟨rfl, hb⟩
        have B6 := Lib.hid (chain B5.out hb)
        have N6 := Lib.hid (N5.out.below hb)
        replace Qa := Lib.hid (Qa.out.below hb)
        replace Qb := Lib.hid (Qb.out.below hb)
        replace Qc := Lib.hid (Qc.out.below hb)
        clear hb c0 c1 c2 c3 nl B5 N5
        obtain ⟨c0, c1, c2, c3⟩ := N6.out.cells
        have nl := N6.out.lt
        have v1 := V1.out; have v2 := V2.out; have v3 := V3.out; have v4 := V4.out
        go_wp2_with fail
        refine (nadd Aa Ab ka kb na nb (fs) (gs) _ Qa.out Qb.out Ma.out Mb.out (by rw [Ma.out]; have := FB.out.1; omega)).mono ?_
        rintro e w7 ⟨Am, km, nm, rfl, h1, h2, hb, h4, h5, h6⟩
        have Mm := Lib.hid h1; have Qm := Lib.hid h2
        clear h1 h2 h4 h5 h6
        have B7 := Lib.hid (chain B6.out hb)
        have N7 := Lib.hid (N6.out.below hb)
        replace Qa := Lib.hid (Qa.out.below hb)
        replace Qb := Lib.hid (Qb.out.below hb)
        replace Qc := Lib.hid (Qc.out.below hb)
        clear hb c0 c1 c2 c3 nl B6 N6
        obtain ⟨c0, c1, c2, c3⟩ := N7.out.cells
        have nl := N7.out.lt
        go_wp2_with fail
        refine (ssame Ac Am kc km nc nm (es) (addR (fs) (gs)) _ Qc.out Qm.out Mc.out Mm.out (by rw [Mc.out]; have := FB.out.2; omega) (SUM.out)).mono ?_
        rintro e w8 ⟨rfl, hb⟩
        have B8 := Lib.hid (chain B7.out hb)
        have N8 := Lib.hid (N7.out.below hb)
        replace Qa := Lib.hid (Qa.out.below hb)
        replace Qb := Lib.hid (Qb.out.below hb)
        replace Qc := Lib.hid (Qc.out.below hb)
        replace Qm := Lib.hid (Qm.out.below hb)
        clear hb c0 c1 c2 c3 nl B7 N7
        obtain ⟨c0, c1, c2, c3⟩ := N8.out.cells
        have nl := N8.out.lt
        go_wp2_with fail
        refine (ssame Aa X ka cX na nx (fs) (xs) _ Qa.out (HX.out.below B8.out) Ma.out LX.out (by rw [Ma.out]; have := FB.out.1; omega) (FX.out FR.out)).mono ?_
        rintro e w9 ⟨rfl, hb⟩
        have B9 := Lib.hid (chain B8.out hb)
        have N9 := Lib.hid (N8.out.below hb)
        replace Qa := Lib.hid (Qa.out.below hb)
        replace Qb := Lib.hid (Qb.out.below hb)
        replace Qc := Lib.hid (Qc.out.below hb)
        replace Qm := Lib.hid (Qm.out.below hb)
        clear hb c0 c1 c2 c3 nl B8 N8
        obtain ⟨c0, c1, c2, c3⟩ := N9.out.cells
        have nl := N9.out.lt
        go_wp2_with fail
        refine (CIN.out _ (HRL.out.below B9.out)).mono ?_
        rintro e w10 ⟨rfl, hb⟩
        rw [INL.out, ← Ma.out]
        have B10 := Lib.hid (chain B9.out hb)
        have N10 := Lib.hid (N9.out.below hb)
        replace Qa := Lib.hid (Qa.out.below hb)
        replace Qb := Lib.hid (Qb.out.below hb)
        replace Qc := Lib.hid (Qc.out.below hb)
        replace Qm := Lib.hid (Qm.out.below hb)
        clear hb c0 c1 c2 c3 nl B9 N9
        obtain ⟨c0, c1, c2, c3⟩ := N10.out.cells
        have nl := N10.out.lt
        go_wp2_with fail
        go_ret
        exact ⟨rfl, B10.out⟩
      exact AllReadyH.nil
    exact AllReadyH.nil
  have np : 0 < n := by omega
  have dn : decide (0 < n) = true := decide_eq_true np
  obtain ⟨b1', o1, rfl, l1, q⟩ := HRL.out (by rw [← LRL.out]; exact np)
  obtain ⟨l, hle⟩ : ∃ l, l = ls.getD 0 Ly.z := ⟨_, rfl⟩
  have q := q 0 (by rw [← LRL.out]; exact np)
  rw [← hle, Nat.zero_mul, Nat.add_zero] at q
  have LK := Lib.hid q; have HLE := Lib.hid hle
  clear q hle n0
  by_cases k3 : l.k = 3
  · skip
    have d3 : (l.k == 3) = true := by simp [k3]
    clear k3
    go_enter Tryz.func7, Tryz.ntmps7
    go_wp2_with fail
    refine (head13_any _).mono ?_
    rintro e w1 ⟨rfl, hb⟩
    have B1 := Lib.hid (chain ((Below.refl w.heap.size w).alloc (Nat.le_refl _) _) hb)
    have N1 := Lib.hid ((NB.new w c h x (.slice (some ⟨b1', o1, none⟩) n cA)).below hb)
    clear hb
    obtain ⟨c0, c1, c2, c3⟩ := N1.out.cells
    have nl := N1.out.lt
    go_wp2_with fail
    refine (great13 c h x _ cA n _ 2 _ [⟨X, nx, cX⟩, ⟨U, nu, cU⟩] _ false hgr (rg_block (heap_alloc_new _ _) rfl) rfl (by decide)).mono ?_
    rintro e w2 ⟨rfl, hb⟩
    replace hb := ((Below.refl w1.heap.size w1).alloc (Nat.le_refl _) _).trans (hb.mono (by simp))
    have B2 := Lib.hid (chain B1.out hb)
    have N2 := Lib.hid (N1.out.below hb)
    clear hb c0 c1 c2 c3 nl B1 N1
    obtain ⟨c0, c1, c2, c3⟩ := N2.out.cells
    have nl := N2.out.lt
    go_wp2_with fail
    refine (CF.out X cX nx _ (HRL.out.below B2.out) (HX.out.below B2.out) LX.out).mono ?_
    rintro e w3 ⟨Aa, ka, na, rfl, h1, h2, hb, h4, h5⟩
    have Ma := Lib.hid h1; have Qa := Lib.hid h2
    clear h1 h2 h4 h5
    have B3 := Lib.hid (chain B2.out hb)
    have N3 := Lib.hid (N2.out.below hb)
    clear hb c0 c1 c2 c3 nl B2 N2
    obtain ⟨c0, c1, c2, c3⟩ := N3.out.cells
    have nl := N3.out.lt
    go_wp2_with fail
    refine (CG.out U cU nu _ (HRL.out.below B3.out) (HU.out.below B3.out) LU.out).mono ?_
    rintro e w4 ⟨Ab, kb, nb, rfl, h1, h2, hb, h4, h5⟩
    have Mb := Lib.hid h1; have Qb := Lib.hid h2
    clear h1 h2 h4 h5
    have B4 := Lib.hid (chain B3.out hb)
    have N4 := Lib.hid (N3.out.below hb)
    replace Qa := Lib.hid (Qa.out.below hb)
    clear hb c0 c1 c2 c3 nl B3 N3
    obtain ⟨c0, c1, c2, c3⟩ := N4.out.cells
    have nl := N4.out.lt
    go_wp2_with fail
    have nl1 := nl; have nl2 := nl; have nl3 := nl
    refine wp_region_noPanic ?_
    refine wp_region_held_drew (S := fun w' => w'.cell? ⟨w.heap.size, 0, none⟩ = some (.int .i64 c) ∧ w'.cell? ⟨w.heap.size, 1, none⟩ = some (.int .i64 h) ∧ w'.cell? ⟨w.heap.size, 2, none⟩ = some (.int .i64 x) ∧ w'.cell? ⟨w.heap.size, 3, none⟩ = some (.slice (some ⟨b1', o1, none⟩) n cA)) (by kernel_rfl) ⟨c0, c1, c2, c3⟩ (fun hHeld => ?_)
    have hd := below_drew w4
    replace c0 := (hd.cell (p := ⟨w.heap.size, 0, none⟩) nl).trans c0
    replace nl := Nat.lt_of_lt_of_le nl hd.size
    replace c1 := (hd.cell (p := ⟨w.heap.size, 1, none⟩) nl1).trans c1
    replace nl1 := Nat.lt_of_lt_of_le nl1 hd.size
    replace c2 := (hd.cell (p := ⟨w.heap.size, 2, none⟩) nl2).trans c2
    replace nl2 := Nat.lt_of_lt_of_le nl2 hd.size
    replace c3 := (hd.cell (p := ⟨w.heap.size, 3, none⟩) nl3).trans c3
    replace nl3 := Nat.lt_of_lt_of_le nl3 hd.size
    generalize w4.drew = wq1 at hHeld hd c0 nl c1 nl1 c2 nl2 c3 nl3 ⊢
    have BD : Hid (Below wq1.heap.size wq1 wq1) := Below.refl _ _
    refine wpAnyH_take (i := 0) (v := ?vv4001) (by simp only [List.getElem?_toArray, List.getElem?_cons_zero]; rfl) (by kernel_rfl) (by kernel_rfl) (by kernel_rfl) (fun _ _ _ h => h) (Or.inl ⟨by rfl, ?yy4001⟩) (by assumption) ?rr4001
    case yy4001 => (intro w hSw; (try dsimp only at hSw); go_simp; first | done | with_reducible rfl)
    simp only [Act.put, List.setIfInBounds_toArray, List.set_cons_zero, List.set_cons_succ]
    refine wpAnyH_take (i := 1) (v := ?vv4002) (by simp only [List.getElem?_toArray, List.getElem?_cons_zero, List.getElem?_cons_succ]; rfl) (by kernel_rfl) (by kernel_rfl) (by kernel_rfl) (fun _ _ _ h => h) (Or.inl ⟨by rfl, ?yy4002⟩) (by assumption) ?rr4002
    case yy4002 => (intro w hSw; (try dsimp only at hSw); go_simp; first | done | with_reducible rfl)
    simp only [Act.put, List.setIfInBounds_toArray, List.set_cons_zero, List.set_cons_succ]
    refine wpAnyH_take (i := 2) (v := ?vv4003) (by simp only [List.getElem?_toArray, List.getElem?_cons_zero, List.getElem?_cons_succ]; rfl) (by kernel_rfl) (by kernel_rfl) (by kernel_rfl) (fun _ _ _ h => h) (Or.inl ⟨by rfl, ?yy4003⟩) (by assumption) ?rr4003
    case yy4003 => (intro w hSw; (try dsimp only at hSw); go_simp; first | done | with_reducible rfl)
    simp only [Act.put, List.setIfInBounds_toArray, List.set_cons_zero, List.set_cons_succ]
    refine wpAnyH_ready (rs := [3]) (by kernel_rfl) (by simp) ?_
    refine AllReadyH.cons (by simp only [List.getElem?_toArray, List.getElem?_cons_zero, List.getElem?_cons_succ]; rfl) (fun K hK => ?_) ?_
    · skip
      go_simp
      go_at_call 19
      (with_reducible refine (nadd X U cX cU nx nu (xs) (us) _ (HX.out.below (chain B4.out (chain hd BD.out))) (HU.out.below (chain B4.out (chain hd BD.out))) LX.out LU.out (by omega)).mono ?_)
      rintro e wq2 ⟨As, ks, ns, rfl, h1, h2, hb, h4, h5, h6⟩
      clear hHeld
      replace BD := Lib.hid (chain BD.out hb)
      have Ms := Lib.hid h1; have Qs := Lib.hid h2
      clear h1 h2 h4 h5 h6
      clear hb
      go_wp2_with fail
      refine hK.out _ _ ⟨(BD.out.cell (p := ⟨w.heap.size, 0, none⟩) nl).trans c0, (BD.out.cell (p := ⟨w.heap.size, 1, none⟩) nl1).trans c1, (BD.out.cell (p := ⟨w.heap.size, 2, none⟩) nl2).trans c2, (BD.out.cell (p := ⟨w.heap.size, 3, none⟩) nl3).trans c3⟩ (fun hHeld => ?_)
      clear hK K
      try simp only [Act.put, List.setIfInBounds_toArray, List.set_cons_zero, List.set_cons_succ]
      refine wpAnyH_ready (rs := [4]) (by kernel_rfl) (by simp) ?_
      refine AllReadyH.cons (by simp only [List.getElem?_toArray, List.getElem?_cons_zero, List.getElem?_cons_succ]; rfl) (fun K hK => ?_) ?_
      · skip
        go_simp
        go_at_call 11
        (with_reducible refine (CH.out As ks ns _ (HRL.out.below (chain B4.out (chain hd BD.out))) Qs.out Ms.out).mono ?_)
        rintro e wq3 ⟨Ac, kc, nc, rfl, h1, h2, hb, h4, h5⟩
        clear hHeld
        replace BD := Lib.hid (chain BD.out hb)
        replace Qs := Lib.hid (Qs.out.below hb)
        have Mc := Lib.hid h1; have Qc := Lib.hid h2
        clear h1 h2 h4 h5
        clear hb
        go_wp2_with fail
        refine hK.out _ _ ⟨(BD.out.cell (p := ⟨w.heap.size, 0, none⟩) nl).trans c0, (BD.out.cell (p := ⟨w.heap.size, 1, none⟩) nl1).trans c1, (BD.out.cell (p := ⟨w.heap.size, 2, none⟩) nl2).trans c2, (BD.out.cell (p := ⟨w.heap.size, 3, none⟩) nl3).trans c3⟩ (fun hHeld => ?_)
        clear hK K
        try simp only [Act.put, List.setIfInBounds_toArray, List.set_cons_zero, List.set_cons_succ]
        refine wpAnyH_take (i := 5) (v := ?vv4004) (by simp only [List.getElem?_toArray, List.getElem?_cons_zero, List.getElem?_cons_succ]; rfl) (by kernel_rfl) (by kernel_rfl) (by kernel_rfl) (fun _ _ _ h => h) (Or.inl ⟨by rfl, ?yy4004⟩) (by assumption) ?rr4004
        case yy4004 => (intro w hSw; (try dsimp only at hSw); go_simp; first | done | with_reducible rfl)
        simp only [Act.put, List.setIfInBounds_toArray, List.set_cons_zero, List.set_cons_succ]
        refine wpAnyH_take (i := 6) (v := ?vv4005) (by simp only [List.getElem?_toArray, List.getElem?_cons_zero, List.getElem?_cons_succ]; rfl) (by kernel_rfl) (by kernel_rfl) (by kernel_rfl) (fun _ _ _ h => h) (Or.inl ⟨by rfl, ?yy4005⟩) (by assumption) ?rr4005
        case yy4005 => (intro w hSw; (try dsimp only at hSw); go_simp; first | done | with_reducible rfl)
        simp only [Act.put, List.setIfInBounds_toArray, List.set_cons_zero, List.set_cons_succ]
        refine wpAnyH_take (i := 7) (v := ?vv4006) (by simp only [List.getElem?_toArray, List.getElem?_cons_zero, List.getElem?_cons_succ]; rfl) (by kernel_rfl) (by kernel_rfl) (by kernel_rfl) (fun _ _ _ h => h) (Or.inl ⟨by rfl, ?yy4006⟩) (by assumption) ?rr4006
        case yy4006 => (intro w hSw; (try dsimp only at hSw); go_simp; first | done | with_reducible rfl)
        simp only [Act.put, List.setIfInBounds_toArray, List.set_cons_zero, List.set_cons_succ]
        refine wpAnyH_take (i := 8) (v := ?vv4007) (by simp only [List.getElem?_toArray, List.getElem?_cons_zero, List.getElem?_cons_succ]; rfl) (by kernel_rfl) (by kernel_rfl) (by kernel_rfl) (fun _ _ _ h => h) (Or.inl ⟨by rfl, ?yy4007⟩) (by assumption) ?rr4007
        case yy4007 => (intro w hSw; (try dsimp only at hSw); go_simp; first | done | with_reducible rfl)
        simp only [Act.put, List.setIfInBounds_toArray, List.set_cons_zero, List.set_cons_succ]
        refine wpAnyH_take (i := 9) (v := ?vv4008) (by simp only [List.getElem?_toArray, List.getElem?_cons_zero, List.getElem?_cons_succ]; rfl) (by kernel_rfl) (by kernel_rfl) (by kernel_rfl) (fun _ _ _ h => h) (Or.inl ⟨by rfl, ?yy4008⟩) (by assumption) ?rr4008
        case yy4008 => (intro w hSw; (try dsimp only at hSw); go_simp; first | done | with_reducible rfl)
        simp only [Act.put, List.setIfInBounds_toArray, List.set_cons_zero, List.set_cons_succ]
        refine wpAnyH_done (by kernel_rfl) ?_ _
        refine NoPanic.normal ?_
        clear hHeld
        have hb := chain hd BD.out
        obtain ⟨w5, hW9⟩ : ∃ W, W = wq3 := ⟨_, rfl⟩
        rw [← hW9] at hb Qc ⊢
        clear hW9 hd BD Qs Ms nl1 nl2 nl3
        have B5 := Lib.hid (chain B4.out hb)
        have N5 := Lib.hid (N4.out.below hb)
        replace Qa := Lib.hid (Qa.out.below hb)
        replace Qb := Lib.hid (Qb.out.below hb)
        clear hb c0 c1 c2 c3 nl B4 N4
        obtain ⟨c0, c1, c2, c3⟩ := N5.out.cells
        have nl := N5.out.lt
        go_wp2_with fail
        refine (CRT.out _ (HRL.out.below B5.out)).mono ?_
        rintro e w6 ⟨rfl, hb⟩
        have B6 := Lib.hid (chain B5.out hb)
        have N6 := Lib.hid (N5.out.below hb)
        replace Qa := Lib.hid (Qa.out.below hb)
        replace Qb := Lib.hid (Qb.out.below hb)
        replace Qc := Lib.hid (Qc.out.below hb)
        clear hb c0 c1 c2 c3 nl B5 N5
        obtain ⟨c0, c1, c2, c3⟩ := N6.out.cells
        have nl := N6.out.lt
        have v1 := V1.out; have v2 := V2.out; have v3 := V3.out; have v4 := V4.out
        obtain ⟨y0, y1, y2, y3⟩ := LK.out.below B6.out l1
        go_wp2_with fail
        refine (nadd Aa Ab ka kb na nb (fs) (gs) _ Qa.out Qb.out Ma.out Mb.out (by rw [Ma.out]; have := FB.out.1; omega)).mono ?_
        rintro e w7 ⟨Am, km, nm, rfl, h1, h2, hb, h4, h5, h6⟩
        have Mm := Lib.hid h1; have Qm := Lib.hid h2
        clear h1 h2 h4 h5 h6
        have B7 := Lib.hid (chain B6.out hb)
        have N7 := Lib.hid (N6.out.below hb)
        replace Qa := Lib.hid (Qa.out.below hb)
        replace Qb := Lib.hid (Qb.out.below hb)
        replace Qc := Lib.hid (Qc.out.below hb)
        clear hb c0 c1 c2 c3 nl B6 N6
        obtain ⟨c0, c1, c2, c3⟩ := N7.out.cells
        have nl := N7.out.lt
        clear y0 y1 y2 y3
        go_wp2_with fail
        refine (ssame Ac Am kc km nc nm (es) (addR (fs) (gs)) _ Qc.out Qm.out Mc.out Mm.out (by rw [Mc.out]; have := FB.out.2; omega) (SUM.out)).mono ?_
        rintro e w8 ⟨rfl, hb⟩
        have B8 := Lib.hid (chain B7.out hb)
        have N8 := Lib.hid (N7.out.below hb)
        replace Qa := Lib.hid (Qa.out.below hb)
        replace Qb := Lib.hid (Qb.out.below hb)
        replace Qc := Lib.hid (Qc.out.below hb)
        replace Qm := Lib.hid (Qm.out.below hb)
        clear hb c0 c1 c2 c3 nl B7 N7
        obtain ⟨c0, c1, c2, c3⟩ := N8.out.cells
        have nl := N8.out.lt
        go_wp2_with fail
        refine (CIN.out _ (HRL.out.below B8.out)).mono ?_
        rintro e w9 ⟨rfl, hb⟩
        rw [INL.out, ← Ma.out]
        have B9 := Lib.hid (chain B8.out hb)
        have N9 := Lib.hid (N8.out.below hb)
        replace Qa := Lib.hid (Qa.out.below hb)
        replace Qb := Lib.hid (Qb.out.below hb)
        replace Qc := Lib.hid (Qc.out.below hb)
        replace Qm := Lib.hid (Qm.out.below hb)
        clear hb c0 c1 c2 c3 nl B8 N8
        obtain ⟨c0, c1, c2, c3⟩ := N9.out.cells
        have nl := N9.out.lt
        go_wp2_with fail
        go_ret
        exact ⟨rfl, B9.out⟩
      exact AllReadyH.nil
    exact AllReadyH.nil
  have d3 : (l.k == 3) = false := by simpa using k3
  have FR : Hid (ls.length = 0 ∨ ¬ (ls.getD 0 Ly.z).k = 3) := .inr (by rw [← HLE.out]; exact k3)
  clear k3
  go_enter Tryz.func7, Tryz.ntmps7
  go_wp2_with fail
  refine (head13_any _).mono ?_
  rintro e w1 ⟨rfl, hb⟩
  have B1 := Lib.hid (chain ((Below.refl w.heap.size w).alloc (Nat.le_refl _) _) hb)
  have N1 := Lib.hid ((NB.new w c h x (.slice (some ⟨b1', o1, none⟩) n cA)).below hb)
  clear hb
  obtain ⟨c0, c1, c2, c3⟩ := N1.out.cells
  have nl := N1.out.lt
  go_wp2_with fail
  refine (great13 c h x _ cA n _ 2 _ [⟨X, nx, cX⟩, ⟨U, nu, cU⟩] _ false hgr (rg_block (heap_alloc_new _ _) rfl) rfl (by decide)).mono ?_
  rintro e w2 ⟨rfl, hb⟩
  replace hb := ((Below.refl w1.heap.size w1).alloc (Nat.le_refl _) _).trans (hb.mono (by simp))
  have B2 := Lib.hid (chain B1.out hb)
  have N2 := Lib.hid (N1.out.below hb)
  clear hb c0 c1 c2 c3 nl B1 N1
  obtain ⟨c0, c1, c2, c3⟩ := N2.out.cells
  have nl := N2.out.lt
  go_wp2_with fail
  refine (CF.out X cX nx _ (HRL.out.below B2.out) (HX.out.below B2.out) LX.out).mono ?_
  rintro e w3 ⟨Aa, ka, na, rfl, h1, h2, hb, h4, h5⟩
  have Ma := Lib.hid h1; have Qa := Lib.hid h2
  clear h1 h2 h4 h5
  have B3 := Lib.hid (chain B2.out hb)
  have N3 := Lib.hid (N2.out.below hb)
  clear hb c0 c1 c2 c3 nl B2 N2
  obtain ⟨c0, c1, c2, c3⟩ := N3.out.cells
  have nl := N3.out.lt
  go_wp2_with fail
  refine (CG.out U cU nu _ (HRL.out.below B3.out) (HU.out.below B3.out) LU.out).mono ?_
  rintro e w4 ⟨Ab, kb, nb, rfl, h1, h2, hb, h4, h5⟩
  have Mb := Lib.hid h1; have Qb := Lib.hid h2
  clear h1 h2 h4 h5
  have B4 := Lib.hid (chain B3.out hb)
  have N4 := Lib.hid (N3.out.below hb)
  replace Qa := Lib.hid (Qa.out.below hb)
  clear hb c0 c1 c2 c3 nl B3 N3
  obtain ⟨c0, c1, c2, c3⟩ := N4.out.cells
  have nl := N4.out.lt
  go_wp2_with fail
  have nl1 := nl; have nl2 := nl; have nl3 := nl
  refine wp_region_noPanic ?_
  refine wp_region_held_drew (S := fun w' => w'.cell? ⟨w.heap.size, 0, none⟩ = some (.int .i64 c) ∧ w'.cell? ⟨w.heap.size, 1, none⟩ = some (.int .i64 h) ∧ w'.cell? ⟨w.heap.size, 2, none⟩ = some (.int .i64 x) ∧ w'.cell? ⟨w.heap.size, 3, none⟩ = some (.slice (some ⟨b1', o1, none⟩) n cA)) (by kernel_rfl) ⟨c0, c1, c2, c3⟩ (fun hHeld => ?_)
  have hd := below_drew w4
  replace c0 := (hd.cell (p := ⟨w.heap.size, 0, none⟩) nl).trans c0
  replace nl := Nat.lt_of_lt_of_le nl hd.size
  replace c1 := (hd.cell (p := ⟨w.heap.size, 1, none⟩) nl1).trans c1
  replace nl1 := Nat.lt_of_lt_of_le nl1 hd.size
  replace c2 := (hd.cell (p := ⟨w.heap.size, 2, none⟩) nl2).trans c2
  replace nl2 := Nat.lt_of_lt_of_le nl2 hd.size
  replace c3 := (hd.cell (p := ⟨w.heap.size, 3, none⟩) nl3).trans c3
  replace nl3 := Nat.lt_of_lt_of_le nl3 hd.size
  generalize w4.drew = wq1 at hHeld hd c0 nl c1 nl1 c2 nl2 c3 nl3 ⊢
  have BD : Hid (Below wq1.heap.size wq1 wq1) := Below.refl _ _
  refine wpAnyH_take (i := 0) (v := ?vv5001) (by simp only [List.getElem?_toArray, List.getElem?_cons_zero]; rfl) (by kernel_rfl) (by kernel_rfl) (by kernel_rfl) (fun _ _ _ h => h) (Or.inl ⟨by rfl, ?yy5001⟩) (by assumption) ?rr5001
  case yy5001 => (intro w hSw; (try dsimp only at hSw); go_simp; first | done | with_reducible rfl)
  simp only [Act.put, List.setIfInBounds_toArray, List.set_cons_zero, List.set_cons_succ]
  refine wpAnyH_take (i := 1) (v := ?vv5002) (by simp only [List.getElem?_toArray, List.getElem?_cons_zero, List.getElem?_cons_succ]; rfl) (by kernel_rfl) (by kernel_rfl) (by kernel_rfl) (fun _ _ _ h => h) (Or.inl ⟨by rfl, ?yy5002⟩) (by assumption) ?rr5002
  case yy5002 => (intro w hSw; (try dsimp only at hSw); go_simp; first | done | with_reducible rfl)
  simp only [Act.put, List.setIfInBounds_toArray, List.set_cons_zero, List.set_cons_succ]
  refine wpAnyH_take (i := 2) (v := ?vv5003) (by simp only [List.getElem?_toArray, List.getElem?_cons_zero, List.getElem?_cons_succ]; rfl) (by kernel_rfl) (by kernel_rfl) (by kernel_rfl) (fun _ _ _ h => h) (Or.inl ⟨by rfl, ?yy5003⟩) (by assumption) ?rr5003
  case yy5003 => (intro w hSw; (try dsimp only at hSw); go_simp; first | done | with_reducible rfl)
  simp only [Act.put, List.setIfInBounds_toArray, List.set_cons_zero, List.set_cons_succ]
  refine wpAnyH_ready (rs := [3]) (by kernel_rfl) (by simp) ?_
  refine AllReadyH.cons (by simp only [List.getElem?_toArray, List.getElem?_cons_zero, List.getElem?_cons_succ]; rfl) (fun K hK => ?_) ?_
  · skip
    go_simp
    go_at_call 19
    (with_reducible refine (nadd X U cX cU nx nu (xs) (us) _ (HX.out.below (chain B4.out (chain hd BD.out))) (HU.out.below (chain B4.out (chain hd BD.out))) LX.out LU.out (by omega)).mono ?_)
    rintro e wq2 ⟨As, ks, ns, rfl, h1, h2, hb, h4, h5, h6⟩
    clear hHeld
    replace BD := Lib.hid (chain BD.out hb)
    have Ms := Lib.hid h1; have Qs := Lib.hid h2
    clear h1 h2 h4 h5 h6
    clear hb
    go_wp2_with fail
    refine hK.out _ _ ⟨(BD.out.cell (p := ⟨w.heap.size, 0, none⟩) nl).trans c0, (BD.out.cell (p := ⟨w.heap.size, 1, none⟩) nl1).trans c1, (BD.out.cell (p := ⟨w.heap.size, 2, none⟩) nl2).trans c2, (BD.out.cell (p := ⟨w.heap.size, 3, none⟩) nl3).trans c3⟩ (fun hHeld => ?_)
    clear hK K
    try simp only [Act.put, List.setIfInBounds_toArray, List.set_cons_zero, List.set_cons_succ]
    refine wpAnyH_ready (rs := [4]) (by kernel_rfl) (by simp) ?_
    refine AllReadyH.cons (by simp only [List.getElem?_toArray, List.getElem?_cons_zero, List.getElem?_cons_succ]; rfl) (fun K hK => ?_) ?_
    · skip
      go_simp
      go_at_call 11
      (with_reducible refine (CH.out As ks ns _ (HRL.out.below (chain B4.out (chain hd BD.out))) Qs.out Ms.out).mono ?_)
      rintro e wq3 ⟨Ac, kc, nc, rfl, h1, h2, hb, h4, h5⟩
      clear hHeld
      replace BD := Lib.hid (chain BD.out hb)
      replace Qs := Lib.hid (Qs.out.below hb)
      have Mc := Lib.hid h1; have Qc := Lib.hid h2
      clear h1 h2 h4 h5
      clear hb
      go_wp2_with fail
      refine hK.out _ _ ⟨(BD.out.cell (p := ⟨w.heap.size, 0, none⟩) nl).trans c0, (BD.out.cell (p := ⟨w.heap.size, 1, none⟩) nl1).trans c1, (BD.out.cell (p := ⟨w.heap.size, 2, none⟩) nl2).trans c2, (BD.out.cell (p := ⟨w.heap.size, 3, none⟩) nl3).trans c3⟩ (fun hHeld => ?_)
      clear hK K
      try simp only [Act.put, List.setIfInBounds_toArray, List.set_cons_zero, List.set_cons_succ]
      refine wpAnyH_take (i := 5) (v := ?vv5004) (by simp only [List.getElem?_toArray, List.getElem?_cons_zero, List.getElem?_cons_succ]; rfl) (by kernel_rfl) (by kernel_rfl) (by kernel_rfl) (fun _ _ _ h => h) (Or.inl ⟨by rfl, ?yy5004⟩) (by assumption) ?rr5004
      case yy5004 => (intro w hSw; (try dsimp only at hSw); go_simp; first | done | with_reducible rfl)
      simp only [Act.put, List.setIfInBounds_toArray, List.set_cons_zero, List.set_cons_succ]
      refine wpAnyH_take (i := 6) (v := ?vv5005) (by simp only [List.getElem?_toArray, List.getElem?_cons_zero, List.getElem?_cons_succ]; rfl) (by kernel_rfl) (by kernel_rfl) (by kernel_rfl) (fun _ _ _ h => h) (Or.inl ⟨by rfl, ?yy5005⟩) (by assumption) ?rr5005
      case yy5005 => (intro w hSw; (try dsimp only at hSw); go_simp; first | done | with_reducible rfl)
      simp only [Act.put, List.setIfInBounds_toArray, List.set_cons_zero, List.set_cons_succ]
      refine wpAnyH_take (i := 7) (v := ?vv5006) (by simp only [List.getElem?_toArray, List.getElem?_cons_zero, List.getElem?_cons_succ]; rfl) (by kernel_rfl) (by kernel_rfl) (by kernel_rfl) (fun _ _ _ h => h) (Or.inl ⟨by rfl, ?yy5006⟩) (by assumption) ?rr5006
      case yy5006 => (intro w hSw; (try dsimp only at hSw); go_simp; first | done | with_reducible rfl)
      simp only [Act.put, List.setIfInBounds_toArray, List.set_cons_zero, List.set_cons_succ]
      refine wpAnyH_take (i := 8) (v := ?vv5007) (by simp only [List.getElem?_toArray, List.getElem?_cons_zero, List.getElem?_cons_succ]; rfl) (by kernel_rfl) (by kernel_rfl) (by kernel_rfl) (fun _ _ _ h => h) (Or.inl ⟨by rfl, ?yy5007⟩) (by assumption) ?rr5007
      case yy5007 => (intro w hSw; (try dsimp only at hSw); go_simp; first | done | with_reducible rfl)
      simp only [Act.put, List.setIfInBounds_toArray, List.set_cons_zero, List.set_cons_succ]
      refine wpAnyH_take (i := 9) (v := ?vv5008) (by simp only [List.getElem?_toArray, List.getElem?_cons_zero, List.getElem?_cons_succ]; rfl) (by kernel_rfl) (by kernel_rfl) (by kernel_rfl) (fun _ _ _ h => h) (Or.inl ⟨by rfl, ?yy5008⟩) (by assumption) ?rr5008
      case yy5008 => (intro w hSw; (try dsimp only at hSw); go_simp; first | done | with_reducible rfl)
      simp only [Act.put, List.setIfInBounds_toArray, List.set_cons_zero, List.set_cons_succ]
      refine wpAnyH_done (by kernel_rfl) ?_ _
      refine NoPanic.normal ?_
      clear hHeld
      have hb := chain hd BD.out
      obtain ⟨w5, hW9⟩ : ∃ W, W = wq3 := ⟨_, rfl⟩
      rw [← hW9] at hb Qc ⊢
      clear hW9 hd BD Qs Ms nl1 nl2 nl3
      have B5 := Lib.hid (chain B4.out hb)
      have N5 := Lib.hid (N4.out.below hb)
      replace Qa := Lib.hid (Qa.out.below hb)
      replace Qb := Lib.hid (Qb.out.below hb)
      clear hb c0 c1 c2 c3 nl B4 N4
      obtain ⟨c0, c1, c2, c3⟩ := N5.out.cells
      have nl := N5.out.lt
      go_wp2_with fail
      refine (CRT.out _ (HRL.out.below B5.out)).mono ?_
      rintro e w6 ⟨rfl, hb⟩
      have B6 := Lib.hid (chain B5.out hb)
      have N6 := Lib.hid (N5.out.below hb)
      replace Qa := Lib.hid (Qa.out.below hb)
      replace Qb := Lib.hid (Qb.out.below hb)
      replace Qc := Lib.hid (Qc.out.below hb)
      clear hb c0 c1 c2 c3 nl B5 N5
      obtain ⟨c0, c1, c2, c3⟩ := N6.out.cells
      have nl := N6.out.lt
      have v1 := V1.out; have v2 := V2.out; have v3 := V3.out; have v4 := V4.out
      obtain ⟨y0, y1, y2, y3⟩ := LK.out.below B6.out l1
      go_wp2_with fail
      refine (nadd Aa Ab ka kb na nb (fs) (gs) _ Qa.out Qb.out Ma.out Mb.out (by rw [Ma.out]; have := FB.out.1; omega)).mono ?_
      rintro e w7 ⟨Am, km, nm, rfl, h1, h2, hb, h4, h5, h6⟩
      have Mm := Lib.hid h1; have Qm := Lib.hid h2
      clear h1 h2 h4 h5 h6
      have B7 := Lib.hid (chain B6.out hb)
      have N7 := Lib.hid (N6.out.below hb)
      replace Qa := Lib.hid (Qa.out.below hb)
      replace Qb := Lib.hid (Qb.out.below hb)
      replace Qc := Lib.hid (Qc.out.below hb)
      clear hb c0 c1 c2 c3 nl B6 N6
      obtain ⟨c0, c1, c2, c3⟩ := N7.out.cells
      have nl := N7.out.lt
      clear y0 y1 y2 y3
      go_wp2_with fail
      refine (ssame Ac Am kc km nc nm (es) (addR (fs) (gs)) _ Qc.out Qm.out Mc.out Mm.out (by rw [Mc.out]; have := FB.out.2; omega) (SUM.out)).mono ?_
      rintro e w8 ⟨rfl, hb⟩
      have B8 := Lib.hid (chain B7.out hb)
      have N8 := Lib.hid (N7.out.below hb)
      replace Qa := Lib.hid (Qa.out.below hb)
      replace Qb := Lib.hid (Qb.out.below hb)
      replace Qc := Lib.hid (Qc.out.below hb)
      replace Qm := Lib.hid (Qm.out.below hb)
      clear hb c0 c1 c2 c3 nl B7 N7
      obtain ⟨c0, c1, c2, c3⟩ := N8.out.cells
      have nl := N8.out.lt
      go_wp2_with fail
      refine (ssame Aa X ka cX na nx (fs) (xs) _ Qa.out (HX.out.below B8.out) Ma.out LX.out (by rw [Ma.out]; have := FB.out.1; omega) (FX.out FR.out)).mono ?_
      rintro e w9 ⟨rfl, hb⟩
      have B9 := Lib.hid (chain B8.out hb)
      have N9 := Lib.hid (N8.out.below hb)
      replace Qa := Lib.hid (Qa.out.below hb)
      replace Qb := Lib.hid (Qb.out.below hb)
      replace Qc := Lib.hid (Qc.out.below hb)
      replace Qm := Lib.hid (Qm.out.below hb)
      clear hb c0 c1 c2 c3 nl B8 N8
      obtain ⟨c0, c1, c2, c3⟩ := N9.out.cells
      have nl := N9.out.lt
      go_wp2_with fail
      refine (CIN.out _ (HRL.out.below B9.out)).mono ?_
      rintro e w10 ⟨rfl, hb⟩
      rw [INL.out, ← Ma.out]
      have B10 := Lib.hid (chain B9.out hb)
      have N10 := Lib.hid (N9.out.below hb)
      replace Qa := Lib.hid (Qa.out.below hb)
      replace Qb := Lib.hid (Qb.out.below hb)
      replace Qc := Lib.hid (Qc.out.below hb)
      replace Qm := Lib.hid (Qm.out.below hb)
      clear hb c0 c1 c2 c3 nl B9 N9
      obtain ⟨c0, c1, c2, c3⟩ := N10.out.cells
      have nl := N10.out.lt
      go_wp2_with fail
      go_ret
      exact ⟨rfl, B10.out⟩
    exact AllReadyH.nil
  exact AllReadyH.nil

end Go.Proofs.YtklgjhldebdegaaGreat

namespace Go.Proofs.YtklgjhldebdegaaGreat.evalFirst
open Go.ChangeShapes Go.WideShapes Go.ChangeAt Go.RowKit

set_option maxRecDepth 100000 in
theorem lifted (os : Os) (started : os.Started) (H : Type) (enc : TypeId × Value → H) :
    ReturnsInHanded {} Tryz.checked os 7 .any (Rows.evalFirstSpec.pre6 enc Tryz.prog Tryz.f7 Rows.evalFirstRow.domain false) (Rows.evalFirstSpec.post enc Tryz.prog Tryz.f7 false true false false) := by
  refine returnsInHanded_of_change (C := Tryz.checked) Tryz.own started (by kernel_rfl) Tryz.func7
    (ChangeSpec.witness6 (enc := enc) (C := Tryz.checked) false ⟨#[], #[.agg #[.int .i64 0, .int .i64 0, .int .i64 0, .slice none 0 0], .slice none 0 0, .slice none 0 0], []⟩ 8 (by kernel_rfl) (by kernel_rfl) (by kernel_rfl) (by kernel_rfl)) ?_
  intro W base args ds gs before hval0 hW _ _
  have hval : ∀ (j : Nat) t v, Tryz.f7.params[j]? = some t → args[j]? = some v → Value.okWide Tryz.prog W .any base t v := hval0
  have hW' := hW
  obtain ⟨p, q, hA0, hV, rfl, hfz, hnd⟩ := hW
  have hA : DataW.TrodAll enc Tryz.prog W 0 (fun _ => true) true Tryz.f7.params.toList args.toList ds p := hA0
  rw [Tryz.params7] at hA hval
  obtain ⟨v0, vs0, d0, ds0, p0, q0, hargs, rfl, rfl, h0, r0⟩ := trodAll_cons hA
  obtain ⟨v1, vs1, d1, ds1, p1, q1, rfl, rfl, rfl, h1, r1⟩ := trodAll_cons r0
  obtain ⟨v2, vs2, d2, ds2, p2, q2, rfl, rfl, rfl, h2, r2⟩ := trodAll_cons r1
  obtain ⟨rfl, rfl, rfl⟩ := trodAll_nil r2
  obtain rfl : args = #[v0, v1, v2] := by cases args; simp_all
  obtain ⟨rfl, rfl⟩ := trodVars_none hV
  have k0 := h0
  have lt0 : ∀ x ∈ p0, x.block < W.heap.size := by obtain ⟨m, hm⟩ := k0; exact DataW.trod_lt m _ _ _ hm
  obtain ⟨c0, y0, x0, A0, n0, cap0, l0, rfl, e0, w0, b0, m0⟩ := net_open (hval 0 26 v0 rfl rfl) h0
  obtain ⟨A1, n1, cap1, rfl⟩ := okWide_slice Tryz.underlying28 (hval 1 28 v1 rfl rfl)
  have k1 := h1
  have lt1 : ∀ x ∈ p1, x.block < W.heap.size := by obtain ⟨m, hm⟩ := k1; exact DataW.trod_lt m _ _ _ hm
  obtain ⟨u1, e1, w1, b1⟩ := ru_open h1
  obtain ⟨A2, n2, cap2, rfl⟩ := okWide_slice Tryz.underlying28 (hval 2 28 v2 rfl rfl)
  have k2 := h2
  have lt2 : ∀ x ∈ p2, x.block < W.heap.size := by obtain ⟨m, hm⟩ := k2; exact DataW.trod_lt m _ _ _ hm
  obtain ⟨u2, e2, w2, b2⟩ := ru_open h2
  clear hA0 hval0
  refine (law_efirst c0 y0 x0 A0 cap0 n0 l0 A1 cap1 n1 u1 A2 cap2 n2 u2 W w0 e0 w1 e1 w2 e2).mono fun e W' ⟨he, bel⟩ => ?_
  subst he
  exact ⟨_, rfl, _, _, _, [], _, [], hW', trodAll_mk1 (shut_bool Tryz.underlying4 _), (trodAll_cons_mk (Below.trod Tryz.laidOut (by kernel_rfl) (of_decide_eq_true (by kernel_rfl)) k0 bel lt0) (trodAll_cons_mk (Below.trod Tryz.laidOut (by kernel_rfl) (of_decide_eq_true (by kernel_rfl)) k1 bel lt1) (trodAll_cons_mk (Below.trod Tryz.laidOut (by kernel_rfl) (of_decide_eq_true (by kernel_rfl)) k2 bel lt2) trodAll_mk0))), rfl, bel.frame _, fun h => by cases h⟩

theorem proved : Rows.EvalFirstSaid :=
  OpenClaim.holds_of_wide 7 Tryz.f7 rfl rfl rfl rfl rfl rfl rfl ⟨rfl, rfl, rfl, rfl, rfl⟩ rfl rfl rfl rfl rfl (by kernel_rfl) Tryz.func7 (by kernel_rfl)
    (of_decide_eq_true (by kernel_rfl)) (by unfold Func.isWrapper; first | (rw [if_pos (by decide +kernel)]; kernel_rfl) | (rw [if_neg (by decide +kernel)]; exact ⟨rfl, rfl⟩))
    (fun os started H enc _ => lifted os started H enc)

end Go.Proofs.YtklgjhldebdegaaGreat.evalFirst

namespace Go.Proofs.YtklgjhldebdegaaGreat
theorem evalFirst_proved : Rows.EvalFirstSaid := evalFirst.proved
#print axioms evalFirst_proved
end Go.Proofs.YtklgjhldebdegaaGreat
