/-
  PlainZero: of a picture of noughts all layers make noughts; of weights of noughts a Conv and a Dense do.
-/
import Derived.Test.YtbcmhoomdackkaaULaw
namespace Go.Proofs.Ytbcmhoomdackkaa
open Go.RowKit

theorem nought_flat (n : Nat) : (noughts n).flatMap ucells = List.replicate n (.int .u64 0) := by
  unfold noughts
  induction n with
  | zero => rfl
  | succ n ih => rw [List.replicate_succ, List.flatMap_cons, ih]; rfl
theorem rg_made (w : World) (n : Nat) : Rg ucells (w.alloc (.cells (madeCells #[.int .u64 0] n) 51)).drew (some ⟨w.heap.size, 0, none⟩) (noughts n) := fun _ => by
  have hb : (w.alloc (.cells (madeCells #[.int .u64 0] n) 51)).drew.heap[w.heap.size]? = some (.cells (madeCells #[.int .u64 0] n) 51 (0, 0)) := heap_alloc_new w _
  refine ⟨w.heap.size, 0, rfl, (Array.getElem?_eq_some_iff.1 hb).1, fun j u hu => ?_⟩
  rw [nought_flat] at hu
  have hj := (List.getElem?_eq_some_iff.1 hu).1
  rw [List.length_replicate] at hj
  rw [List.getElem?_replicate, if_pos hj] at hu
  rw [Nat.zero_add, Lib.cell_of_heap hb, ← Option.some.inj hu]
  simp [madeCells, hj, Nat.mod_one]
theorem nought_cell {w : World} {b off n : Nat} (h : ∀ j u, ((noughts n).flatMap ucells)[j]? = some u → w.cell? ⟨b, off + j, none⟩ = some u) {k : Nat} (hk : k < n) : w.cell? ⟨b, off + k, none⟩ = some (.int .u64 0) :=
  h k _ (by rw [nought_flat, List.getElem?_replicate, if_pos hk])
theorem make_u64 (n : Nat) (hn : n ≤ 100000) (w : World) : (Instr.makeSlice 44 (.int .i64 (n : Int)) (.int .i64 (n : Int))).run Try.prog w = .ok (.slice (some ⟨w.heap.size, 0, none⟩) n n) (w.alloc (.cells (madeCells #[.int .u64 0] n) 51)) := by
  obtain ⟨i0, hi0, hz0, hz1, hz2⟩ := info_parts Try.info51
  have := run_make (P := Try.prog) w 44 51 i0 _ Try.underlying44 hi0 hz0 .i64 .i64 (n : Int) (n : Int) (by omega) (Int.le_refl _) (by rw [hz2]; omega) (by omega)
  rw [hz1, Nat.mul_one] at this
  exact this

set_option maxHeartbeats 2000000 in
set_option maxRecDepth 100000 in
theorem law_pzero (c h x : Int) (A : Option Addr) (cA n : Nat) (ls : List Ly) (a : Int) (X W : Option Addr) (cX nx cW nw : Nat) (xs ws : List UInt64) (w : World) (hx : Rl w A ls) (ln : n = ls.length) (ba : 0 ≤ a ∧ a ≤ 255) (hX : Rg ucells w X xs) (lX : nx = xs.length) (hW : Rg ucells w W ws) (lW : nw = ws.length) :
    Calls Try.prog 12 #[.agg #[.int .i64 c, .int .i64 h, .int .i64 x, .slice A n cA], .int .u8 a, .slice X nx cX, .slice W nw cW] w fun e w' => e = .returned (.bool true) ∧ Below w.heap.size w w' := by
  have HRL := Lib.hid hx; have LRL := Lib.hid ln
  have HX := Lib.hid hX; have LX := Lib.hid lX
  have HW := Lib.hid hW; have LW := Lib.hid lW
  clear hx ln hX lX hW lW
  obtain ⟨ba0, ba1⟩ := ba
  go_enter Try.func12, Try.ntmps12
  go_wp2_with fail
  refine (head7_any _).mono ?_
  rintro e w1 ⟨rfl, hb⟩
  have B1 := Lib.hid (chain ((Below.refl w.heap.size w).alloc (Nat.le_refl _) _) hb)
  have N1 := Lib.hid ((NB.new w c h x (.slice A n cA)).below hb)
  clear hb
  obtain ⟨c0, c1, c2, c3⟩ := N1.out.cells
  obtain ⟨kk, hkk⟩ : ∃ kk : Nat, a % 8 = kk := ⟨(a % 8).toNat, by omega⟩
  have kk8 : kk < 8 := by omega
  by_cases hg : 60 < n ∨ 3000 < nx ∨ 3000 < nw
  · have hgr : (anyB [⟨X, nx, cX⟩, ⟨W, nw, cW⟩] || decide (60 < (n : Int))) = true := by unfold anyB; simp; omega
    go_wp2_with fail
    refine (great7_any c h x A cA n _ 2 _ [⟨X, nx, cX⟩, ⟨W, nw, cW⟩] _ true hgr (rg_block (heap_alloc_new _ _) rfl) rfl (by decide)).mono ?_
    rintro e w2 ⟨rfl, hb⟩
    have hb := ((Below.refl w1.heap.size w1).alloc (Nat.le_refl _) _).trans (hb.mono (by simp))
    have B2 := Lib.hid (chain B1.out hb)
    have N2 := Lib.hid (N1.out.below hb)
    clear hb c0 c1 c2 c3 B1 N1
    obtain ⟨c0, c1, c2, c3⟩ := N2.out.cells
    clear hg hgr
    go_wp2_with fail
    go_ret
    exact ⟨rfl, B2.out⟩
  have hgr : (anyB [⟨X, nx, cX⟩, ⟨W, nw, cW⟩] || decide (60 < (n : Int))) = false := by unfold anyB; simp; omega
  have hn60 : n ≤ 60 := by omega
  have hn1 : n ≤ 1000 := by omega
  have bX : nx ≤ 3000 := by omega
  have bW : nw ≤ 3000 := by omega
  go_wp2_with fail
  refine (great7_any c h x A cA n _ 2 _ [⟨X, nx, cX⟩, ⟨W, nw, cW⟩] _ false hgr (rg_block (heap_alloc_new _ _) rfl) rfl (by decide)).mono ?_
  rintro e w2 ⟨rfl, hb⟩
  have hb := ((Below.refl w1.heap.size w1).alloc (Nat.le_refl _) _).trans (hb.mono (by simp))
  have B2 := Lib.hid (chain B1.out hb)
  have N2 := Lib.hid (N1.out.below hb)
  clear hb c0 c1 c2 c3 B1 N1
  obtain ⟨c0, c1, c2, c3⟩ := N2.out.cells
  clear hg hgr
  by_cases hkn : n ≤ kk
  · have d : decide ((n : Int) ≤ (kk : Int)) = true := by simp; omega
    have d2 : decide (n ≤ kk) = true := by simp; omega
    clear hkn
    go_wp2_with fail
    go_ret
    exact ⟨rfl, B2.out⟩
  have dhkn : decide ((n : Int) ≤ (kk : Int)) = false := by simp; omega
  have ehkn : decide (n ≤ kk) = false := by simp; omega
  have kn : kk < n := by omega
  have kl : kk < ls.length := by rw [← LRL.out]; exact kn
  have ki : (kk : Int) < (n : Int) := by omega
  have hl := get_ly kl
  obtain ⟨l, hle⟩ : ∃ l, l = ls.getD kk Ly.z := ⟨_, rfl⟩
  rw [← hle] at hl
  obtain ⟨b1, o1, rfl, l1, q⟩ := HRL.out (by omega)
  have q := q kk kl
  rw [← hle] at q
  have LK := Lib.hid q; have HL := Lib.hid hl
  clear q hl hle
  obtain ⟨r, hr⟩ : ∃ r, okL ⟨c, h, x, ls⟩ (kk : Int) (noughts nx) ws = r := ⟨_, rfl⟩
  have HR := Lib.hid hr
  have rr : (r != r) = false := by cases r <;> rfl
  obtain ⟨ua, hua⟩ : ∃ u, layN ⟨c, h, x, ls⟩ (kk : Int) (noughts nx) ws = u := ⟨_, rfl⟩
  obtain ⟨ub, hub⟩ : ∃ u, layN ⟨c, h, x, ls⟩ (kk : Int) xs (noughts nw) = u := ⟨_, rfl⟩
  have HUA := Lib.hid hua; have HUB := Lib.hid hub
  have e1 : (noughts nx).length = xs.length := by rw [noughts_len]; exact LX.out
  have e2 : (noughts nw).length = ws.length := by rw [noughts_len]; exact LW.out
  have HR2 : Hid (okL ⟨c, h, x, ls⟩ (kk : Int) xs (noughts nw) = r) := (okL_len e1.symm e2).trans hr
  have HAB : Hid (ua.length = ub.length) := by rw [hua.symm, hub.symm]; exact layN_same_len e1 e2.symm
  have ZA : Hid (ua = noughts ua.length) := by
    show _ = _
    rw [hua.symm, LX.out]; exact layN_zero _ _ _ _
  have ZB : Hid (l.k ≠ 2 → l.k ≠ 3 → ub = noughts ub.length) := fun k2 k3 => by
    rw [hub.symm, LW.out]; exact layN_wzero HL.out k2 k3 xs ws
  have BAD : Hid (¬ (l.k = 1 ∨ l.k = 2 ∨ l.k = 3 ∨ l.k = 4) → ub = []) := fun hk => by
    rw [hub.symm]
    cases ok : okL ⟨c, h, x, ls⟩ (kk : Int) xs (noughts nw)
    · exact lay_no ok
    · exact absurd (by have := (okL_good ok).kind; rw [at_ly HL.out ok] at this; exact this) hk
  have HA8 : Hid (ua.length ≤ 128) := by rw [hua.symm]; exact layN_len _ _ _ _
  have MX := make_u64 nx (by omega)
  have MW := make_u64 nw (by omega)
  clear hr hua hub e1 e2
  go_wp2_with fail
  have HC0 : Hid (Below w2.heap.size w2 (w2.alloc (.cells (madeCells #[.int .u64 0] nx) 51)).drew) := ((Below.refl _ w2).alloc (Nat.le_refl _) _).drew
  have BC0 := Lib.hid (chain B2.out HC0.out)
  have RZ := Lib.hid (rg_made w2 nx)
  have lN := N2.out.lt
  have tok1 : True := trivial
  go_region_held3 (fun w' => w'.cell? ⟨w.heap.size, 0, none⟩ = some (.int .i64 c) ∧ w'.cell? ⟨w.heap.size, 1, none⟩ = some (.int .i64 h) ∧ w'.cell? ⟨w.heap.size, 2, none⟩ = some (.int .i64 x) ∧ w'.cell? ⟨w.heap.size, 3, none⟩ = some (.slice (some ⟨b1, o1, none⟩) n cA))
    (first | exact ⟨q0, q1, q2, q3⟩ | go_keep)
    (first
      | ((have _t := tok1; clear tok1; go_at_call 26; (with_reducible refine (layer_any c h x _ _ W cA n nx nx cW nw ls (noughts nx) ws ua (kk : Int) r _ (HRL.out.below BC0.out) LRL.out hn1 RZ.out (noughts_len nx).symm (HW.out.below BC0.out) LW.out HUA.out HR.out).mono ?_); rintro e w3 ⟨Aa, ka, na, rfl, h1, h2, hb2, h4, h5⟩
          have Ma := Lib.hid h1; have Qa := Lib.hid h2
          have HC1 := Lib.hid (HC0.out.trans (hb2.mono HC0.out.size))
          have q0 := (HC1.out.cell (p := ⟨w.heap.size, 0, none⟩) lN).trans c0
          have q1 := (HC1.out.cell (p := ⟨w.heap.size, 1, none⟩) lN).trans c1
          have q2 := (HC1.out.cell (p := ⟨w.heap.size, 2, none⟩) lN).trans c2
          have q3 := (HC1.out.cell (p := ⟨w.heap.size, 3, none⟩) lN).trans c3
          clear hb2 h1 h2 h4 h5))
      | fail)
  have hb : Below w2.heap.size w2 w3 := HC1.out
  clear q0 q1 q2 q3 HC0 HC1 BC0 RZ lN
  have B3 := Lib.hid (chain B2.out hb)
  have N3 := Lib.hid (N2.out.below hb)
  clear hb c0 c1 c2 c3 B2 N2
  obtain ⟨c0, c1, c2, c3⟩ := N3.out.cells
  clear MX
  go_wp2_with fail
  have HC0 : Hid (Below w3.heap.size w3 (w3.alloc (.cells (madeCells #[.int .u64 0] nw) 51)).drew) := ((Below.refl _ w3).alloc (Nat.le_refl _) _).drew
  have BC0 := Lib.hid (chain B3.out HC0.out)
  have RZ := Lib.hid (rg_made w3 nw)
  have lN := N3.out.lt
  have tok1 : True := trivial
  go_region_held3 (fun w' => w'.cell? ⟨w.heap.size, 0, none⟩ = some (.int .i64 c) ∧ w'.cell? ⟨w.heap.size, 1, none⟩ = some (.int .i64 h) ∧ w'.cell? ⟨w.heap.size, 2, none⟩ = some (.int .i64 x) ∧ w'.cell? ⟨w.heap.size, 3, none⟩ = some (.slice (some ⟨b1, o1, none⟩) n cA))
    (first | exact ⟨q0, q1, q2, q3⟩ | go_keep)
    (first
      | ((have _t := tok1; clear tok1; go_at_call 26; (with_reducible refine (layer_any c h x _ X _ cA n cX nx nw nw ls xs (noughts nw) ub (kk : Int) r _ (HRL.out.below BC0.out) LRL.out hn1 (HX.out.below BC0.out) LX.out RZ.out (noughts_len nw).symm HUB.out HR2.out).mono ?_); rintro e w4 ⟨Ab, kb, nb, rfl, h1, h2, hb2, h4, h5⟩
          have Mb := Lib.hid h1; have Qb := Lib.hid h2
          have HC1 := Lib.hid (HC0.out.trans (hb2.mono HC0.out.size))
          have q0 := (HC1.out.cell (p := ⟨w.heap.size, 0, none⟩) lN).trans c0
          have q1 := (HC1.out.cell (p := ⟨w.heap.size, 1, none⟩) lN).trans c1
          have q2 := (HC1.out.cell (p := ⟨w.heap.size, 2, none⟩) lN).trans c2
          have q3 := (HC1.out.cell (p := ⟨w.heap.size, 3, none⟩) lN).trans c3
          clear hb2 h1 h2 h4 h5))
      | fail)
  have hb : Below w3.heap.size w3 w4 := HC1.out
  clear q0 q1 q2 q3 HC0 HC1 BC0 RZ lN
  have B4 := Lib.hid (chain B3.out hb)
  have N4 := Lib.hid (N3.out.below hb)
  have Qa := Lib.hid (Qa.out.below hb)
  clear hb c0 c1 c2 c3 B3 N3
  obtain ⟨c0, c1, c2, c3⟩ := N4.out.cells
  clear MW
  have hab : na = nb := by rw [Ma.out, Mb.out]; exact HAB.out
  subst hab
  have na8 : na ≤ 128 := by rw [Ma.out]; exact HA8.out
  have QA : Hid (Rg ucells w4 Aa (noughts na)) := by show Rg _ _ _ _; rw [Ma.out, ← ZA.out]; exact Qa.out
  go_wp2_with fail
  clear c0 c1 c2 c3
  go_loopg [15] na (fun g s15 wx => ∃ j : Nat, j ≤ na ∧ Hid (g = na - j) ∧ s15 = .int .i64 (j : Int) ∧ Hid (Below w4.heap.size w4 wx))
  case atStart => exact ⟨0, by omega, by show _ = _; omega, rfl, Below.refl _ _⟩
  case round =>
    obtain ⟨j, hj, HG, rfl, BK⟩ := hrel
    by_cases jn : j < na
    · have jb : (j : Int) < (na : Int) := by omega
      obtain ⟨b2, o2, rfl, l2, q2⟩ := QA.out (by rw [noughts_len]; omega)
      have z := (BK.out.cell (p := ⟨b2, o2 + j, none⟩) l2).trans (nought_cell q2 jn)
      clear q2
      go_wp2_with fail
      go_roundg (na - (j + 1))
      case measure => have := HG.out; omega
      case rel => exact ⟨j + 1, by omega, rfl, by go_num, BK⟩
    · obtain rfl : j = na := by omega
      have BW := Lib.hid (chain B4.out BK.out)
      have NW := Lib.hid (N4.out.below BK.out)
      have QB := Lib.hid (Qb.out.below BK.out)
      obtain ⟨c0, c1, c2, c3⟩ := NW.out.cells
      obtain ⟨z0, z1, z2, z3⟩ := LK.out.below BW.out l1
      by_cases we : ¬ (l.k = 1 ∨ l.k = 4)
      · have d1 : (l.k == 1) = false := by simp; omega
        have d4 : (l.k == 4) = false := by simp; omega
        clear we
        go_wp2_with fail
        clear c0 c1 c2 c3 z0 z1 z2 z3
        go_loopg [17] 1 (fun g s17 wx => Hid (g = 1) ∧ s17 = .int .i64 0 ∧ Hid (Below wr.heap.size wr wx))
        case atStart => exact ⟨rfl, rfl, Below.refl _ _⟩
        case round =>
          obtain ⟨HG2, rfl, BJ⟩ := hrel
          by_cases j0 : 0 < j
          · have j1 : (0 : Int) < (j : Int) := by omega
            go_wp2_with fail
            go_ret
            exact ⟨rfl, chain BW.out BJ.out⟩
          · obtain rfl : j = 0 := by omega
            go_wp2_with fail
            go_ret
            exact ⟨rfl, chain BW.out BJ.out⟩
      have we : l.k = 1 ∨ l.k = 4 := Decidable.not_not.1 we
      have QZ : Hid (Rg ucells wr Ab (noughts j)) := by
        show Rg _ _ _ _
        have := ZB.out (by omega) (by omega)
        rw [Mb.out, ← this]; exact QB.out
      rcases we with k1 | k4
      all_goals
        first
          | (have d1 : (l.k == 1) = true := by rw [k1]; rfl
             clear k1)
          | (have d1 : (l.k == 1) = false := by rw [k4]; rfl
             have d4 : (l.k == 4) = true := by rw [k4]; rfl
             clear k4)
        go_wp2_with fail
        clear c0 c1 c2 c3 z0 z1 z2 z3
        go_loopg [17] j (fun g s17 wx => ∃ i : Nat, i ≤ j ∧ Hid (g = j - i) ∧ s17 = .int .i64 (i : Int) ∧ Hid (Below wr.heap.size wr wx))
        case atStart => exact ⟨0, by omega, by show _ = _; omega, rfl, Below.refl _ _⟩
        case round =>
          obtain ⟨i, hi, HG2, rfl, BJ⟩ := hrel
          by_cases jn : i < j
          · have jb : (i : Int) < (j : Int) := by omega
            obtain ⟨b2, o2, rfl, l2, q2⟩ := QZ.out (by rw [noughts_len]; omega)
            have z := (BJ.out.cell (p := ⟨b2, o2 + i, none⟩) l2).trans (nought_cell q2 jn)
            clear q2
            go_wp2_with fail
            go_roundg (j - (i + 1))
            case measure => have := HG2.out; omega
            case rel => exact ⟨i + 1, by omega, rfl, by go_num, BJ⟩
          · obtain rfl : i = j := by omega
            go_wp2_with fail
            go_ret
            exact ⟨rfl, chain BW.out BJ.out⟩

end Go.Proofs.Ytbcmhoomdackkaa
