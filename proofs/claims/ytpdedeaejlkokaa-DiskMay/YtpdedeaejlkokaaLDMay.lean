/-
  DiskMay: the walk.
-/
import Derived.Test.YtpdedeaejlkokaaDLaw
namespace Go.Proofs.Ytpdedeaejlkokaa
open Go.RowKit

set_option maxHeartbeats 8000000 in
set_option maxRecDepth 100000 in
theorem law_dmay (T : Int) (hT : -128 ≤ T ∧ T ≤ 127) (a : Nat) (ha : a ≤ 255) (A : Option Addr) (n c : Nat) (os : List Dop) (Y : Option Addr) (nY cY : Nat) (keep : List Bool) (w : World) (H : Scr w A n c os) (hy : Rg qcells w Y keep) (ly : nY = keep.length) : Calls Try.prog 5 #[.slice A n c, .slice Y nY cY, .int .i8 T, .int .u8 (a : Int)] w fun e w' => e = .returned (.bool true) ∧ Below w.heap.size w w' := by
  have HS := Lib.hid H
  have HY := Lib.hid hy
  have LY := Lib.hid ly
  have HTT := Lib.hid hT
  obtain ⟨T0, T1⟩ := hT
  obtain ⟨K, hK⟩ : ∃ K, K = a % 6 := ⟨_, rfl⟩
  have K8 : Hid (K < 6) := by show K < 6; omega
  have m1 : (a : Int).tmod 6 = (K : Int) := by rw [Int.tmod_eq_emod_of_nonneg (by omega)]; omega
  have m2 : (a : Int) % 6 = (K : Int) := by omega
  clear H hK hy ly
  go_enter Try.func5, Try.ntmps5
  go_wp2_with fail
  refine (head15 _).mono ?_
  rintro e w1 ⟨rfl, hb⟩
  have B1 := Lib.hid hb
  clear hb
  go_wp2_with fail
  refine (dv_new 6 (by decide) B1.out).mono ?_
  rintro e w2 ⟨g, O, rfl, hD, _⟩
  have D2 := Lib.hid hD
  clear hD
  go_wp2_with fail
  refine (great15 A n c os _ (HS.out.r.below D2.out.bl) HS.out.l).mono ?_
  rintro e w3 ⟨b, rfl, hg, hb⟩
  have D3 := Lib.hid (D2.out.below hb)
  have HG := Lib.hid hg
  clear hb hg D2
  cases b with
  | true =>
    go_wp2_with fail
    go_ret
    exact ⟨rfl, D3.out.bl⟩
  | false =>
    have FT := Lib.hid (HG.out rfl)
    have n3 : n ≤ 300 := by rw [HS.out.l]; exact FT.out.1
    by_cases y9 : 900 < nY
    · have dy : decide (900 < (nY : Int)) = true := decide_eq_true (by omega)
      have dy' : decide (900 < nY) = true := decide_eq_true y9
      go_wp2_with fail
      go_ret
      exact ⟨rfl, D3.out.bl⟩
    have dy : decide (900 < (nY : Int)) = false := decide_eq_false (by omega)
    have dy' : decide (900 < nY) = false := decide_eq_false y9
    obtain ⟨s1, s2, s3, s4⟩ := sync_clean (dk_new 6) rfl
    have CS := Lib.hid (dv_sync D3.out (by decide) (by decide))
    obtain ⟨d1, hd1⟩ : ∃ d1, d1 = (dkSync (dkNew 6)).1 := ⟨_, rfl⟩
    rw [← hd1] at s1 s2 s3 CS
    rw [s4] at CS
    have M0 := Lib.hid (May.start (k := K) keep T s1 s2 s3)
    have RD : Hid (dkRead d1 (K : Int) = dkAt d1 K) := read_at s1 s3 K8.out
    clear hd1 s1 s2 s3 s4 y9
    go_wp2_with fail
    refine CS.out.mono ?_
    rintro e w4 ⟨rfl, O4, hD, _, _⟩
    have D4 := Lib.hid hD
    clear hD D3 CS
    go_wp2_with fail
    refine (dv_read D4.out (K : Int) (by decide) (by decide)).mono ?_
    rw [RD.out]
    rintro e w5 ⟨Ax, nx, cx, rfl, h1, h2, hb5, h3, h4, h5⟩
    have D5 := Lib.hid (D4.out.below hb5)
    have XL := Lib.hid h1
    have KX := Lib.hid (KR.new D4.out h2 h4)
    clear h1 h2 hb5 h3 h4 h5 D4 RD
    go_wp2_with fail
    go_loopg [12, 13, 14, 15] n (fun gh s12 s13 s14 s15 wx => ∃ (i q : Nat) (d : Dk) (O : Nat → Prop) (R : List UInt8 × Int) (Ax : Option Addr) (nx cx : Nat), i ≤ n ∧ Hid (gh = n - i) ∧ s15 = .int .i64 (i : Int) ∧ s14 = .int .i64 (q : Int) ∧ s12 = .slice Ax nx cx ∧ s13 = .int .i64 R.2 ∧ Hid (nx = R.1.length) ∧ Hid (q ≤ i) ∧ Hid (DV w w1.heap.size 6 i d g O wx) ∧ Hid (May 6 K keep T R q d) ∧ Hid (KR O wx Ax R.1))
    case atStart => exact ⟨0, 0, _, _, _, _, _, _, Nat.zero_le _, by show _ = _; omega, rfl, rfl, rfl, rfl, XL, Nat.le_refl 0, D5, M0, KX⟩
    case round =>
      obtain ⟨i, q, d, O5, R, Ax, nx, cx, hi, HGG, rfl, rfl, rfl, rfl, XL, QI, DK, MK, KX⟩ := hrel
      by_cases kn : i < n
      · have ki : (i : Int) < (n : Int) := by omega
        have k0 : (0 : Int) ≤ (i : Int) := by omega
        obtain ⟨o, _, ob, bk, off, hb, hq, rfl, HB1, HQ1, cc⟩ := HS.out.at kn
        obtain ⟨c0, c1, c2, c3, c4, c5⟩ := cc wr DK.out.bl
        have KN := Lib.hid kn
        have WA := chain_alloc (Below.refl _ wr) (.cells (opcells o hb hq) 34)
        have TB := heap_alloc_new wr (.cells (opcells o hb hq) 34)
        have D5 := Lib.hid (DK.out.below WA)
        have KX5 := Lib.hid (KX.out.below WA)
        have q3 : q ≤ 300 := by have := QI.out; omega
        have i3 : i ≤ 300 := by omega
        clear cc HB1 HQ1 ob kn KX hi
        by_cases h0 : o.w < 0
        · have d0 : decide (o.w < 0) = true := decide_eq_true h0
          clear h0 TB WA DK
          go_wp2_with fail
          go_roundg (n - (i + 1))
          case measure => have := HGG.out; have := KN.out; omega
          case rel => exact ⟨i + 1, q, d, O5, R, Ax, nx, cx, by have := KN.out; omega, rfl, by go_num, rfl, rfl, rfl, XL, by have := QI.out; show q ≤ _; omega, Lib.hid (D5.out.up (Nat.le_succ i)), MK, KX5⟩
        have d0 : decide (o.w < 0) = false := decide_eq_false h0
        by_cases h3 : 3 < o.w
        · have d3 : decide (3 < o.w) = true := decide_eq_true h3
          clear h0 h3 TB WA DK
          go_wp2_with fail
          go_roundg (n - (i + 1))
          case measure => have := HGG.out; have := KN.out; omega
          case rel => exact ⟨i + 1, q, d, O5, R, Ax, nx, cx, by have := KN.out; omega, rfl, by go_num, rfl, rfl, rfl, XL, by have := QI.out; show q ≤ _; omega, Lib.hid (D5.out.up (Nat.le_succ i)), MK, KX5⟩
        have d3 : decide (3 < o.w) = false := decide_eq_false h3
        clear h0 h3
        go_wp2_with fail
        obtain ⟨bt, hbt⟩ : ∃ bt, bt = wr.heap.size := ⟨_, rfl⟩
        rw [← hbt] at TB ⊢
        have NBT : Hid (¬ O5 bt) := fun z => by rw [hbt] at z; have := (DK.out.di.lt _ z).2; omega
        have LBT : Hid (w.heap.size ≤ bt) := by show _ ≤ _; rw [hbt]; exact DK.out.bl.size
        unfold opcells at TB D5 KX5
        generalize wr.alloc (.cells #[.int .i64 o.w, .int .i64 o.a, .int .u8 (bz o.c), .slice hb.a hb.n hb.c, .int .i64 o.n, .slice hq.a hq.n hq.c] 34) = w5 at TB D5 KX5 ⊢
        have t1 : w5.cell? ⟨bt, 1, none⟩ = some (.int .i64 o.a) := by rw [Lib.cell_of_heap TB]; rfl
        have t2 : w5.cell? ⟨bt, 2, none⟩ = some (.int .u8 (bz o.c)) := by rw [Lib.cell_of_heap TB]; rfl
        obtain ⟨z, hz⟩ : ∃ z, z = bz o.c := ⟨_, rfl⟩
        rw [← hz] at t2
        have CF : Hid (∀ v : World, Calls Try.prog 24 #[.int .u8 z] v (RowNew bcells (fillB o.c) v)) := fun v => by rw [hz]; exact fill15n o.c v
        have lt1 := (Array.getElem?_eq_some_iff.1 TB).1
        rw [← hz]
        clear TB WA hbt hz DK c0 c1 c2 c3 c4 c5
        go_wp2_with fail
        refine wp_region_noPanic ?_
        refine wp_region_held_drew (S := fun w' => w'.cell? ⟨bt, 1, none⟩ = some (.int .i64 o.a) ∧ w'.cell? ⟨bt, 2, none⟩ = some (.int .u8 z)) (by kernel_rfl) ⟨t1, t2⟩ (fun hHeld => ?_)
        have hd := below_drew w5
        replace t1 := (hd.cell (p := ⟨bt, 1, none⟩) lt1).trans t1
        replace t2 := (hd.cell (p := ⟨bt, 2, none⟩) lt1).trans t2
        replace lt1 := Nat.lt_of_lt_of_le lt1 hd.size
        replace D5 := Lib.hid (D5.out.below hd)
        replace KX5 := Lib.hid (KX5.out.below hd)
        generalize w5.drew = w6 at hHeld hd t1 t2 lt1 D5 KX5 ⊢
        clear hd
        refine wpAnyH_take (i := 0) (v := ?vv4000) (by simp only [List.getElem?_toArray, List.getElem?_cons_zero]; rfl) (by kernel_rfl) (by kernel_rfl) (by kernel_rfl) (fun _ _ _ h => h) (Or.inl ⟨by rfl, ?yy4000⟩) (by assumption) ?rr4000
        case yy4000 => (intro w hSw; (try dsimp only at hSw); go_simp; first | done | with_reducible rfl)
        simp only [Act.put, List.setIfInBounds_toArray, List.set_cons_zero, List.set_cons_succ]
        refine wpAnyH_take (i := 1) (v := ?vv4001) (by simp only [List.getElem?_toArray, List.getElem?_cons_zero, List.getElem?_cons_succ]; rfl) (by kernel_rfl) (by kernel_rfl) (by kernel_rfl) (fun _ _ _ h => h) (Or.inl ⟨by rfl, ?yy4001⟩) (by assumption) ?rr4001
        case yy4001 => (intro w hSw; (try dsimp only at hSw); go_simp; first | done | with_reducible rfl)
        simp only [Act.put, List.setIfInBounds_toArray, List.set_cons_zero, List.set_cons_succ]
        refine wpAnyH_take (i := 2) (v := ?vv4002) (by simp only [List.getElem?_toArray, List.getElem?_cons_zero, List.getElem?_cons_succ]; rfl) (by kernel_rfl) (by kernel_rfl) (by kernel_rfl) (fun _ _ _ h => h) (Or.inl ⟨by rfl, ?yy4002⟩) (by assumption) ?rr4002
        case yy4002 => (intro w hSw; (try dsimp only at hSw); go_simp; first | done | with_reducible rfl)
        simp only [Act.put, List.setIfInBounds_toArray, List.set_cons_zero, List.set_cons_succ]
        refine wpAnyH_take (i := 3) (v := ?vv4003) (by simp only [List.getElem?_toArray, List.getElem?_cons_zero, List.getElem?_cons_succ]; rfl) (by kernel_rfl) (by kernel_rfl) (by kernel_rfl) (fun _ _ _ h => h) (Or.inl ⟨by rfl, ?yy4003⟩) (by assumption) ?rr4003
        case yy4003 => (intro w hSw; (try dsimp only at hSw); go_simp; first | done | with_reducible rfl)
        simp only [Act.put, List.setIfInBounds_toArray, List.set_cons_zero, List.set_cons_succ]
        refine wpAnyH_take (i := 4) (v := ?vv4004) (by simp only [List.getElem?_toArray, List.getElem?_cons_zero, List.getElem?_cons_succ]; rfl) (by kernel_rfl) (by kernel_rfl) (by kernel_rfl) (fun _ _ _ h => h) (Or.inl ⟨by rfl, ?yy4004⟩) (by assumption) ?rr4004
        case yy4004 => (intro w hSw; (try dsimp only at hSw); go_simp; first | done | with_reducible rfl)
        simp only [Act.put, List.setIfInBounds_toArray, List.set_cons_zero, List.set_cons_succ]
        refine wpAnyH_ready (rs := [5]) (by kernel_rfl) (by simp) ?_
        refine AllReadyH.cons (by simp only [List.getElem?_toArray, List.getElem?_cons_zero, List.getElem?_cons_succ]; rfl) (fun K hK => ?_) ?_
        · skip
          go_simp
          go_at_call 24
          (with_reducible refine (CF.out _).mono ?_)
          rintro e w7 ⟨Af, kf, nf, rfl, h1, h2, hbf, h4, h5, h6⟩
          clear hHeld
          have Mf := Lib.hid h1; have Rf := Lib.hid h2; have Nf := Lib.hid h6; have BF := Lib.hid hbf
          have KX7 := Lib.hid (KX5.out.below hbf)
          clear h1 h2 h4 h5 h6 hbf
          go_wp2_with fail
          refine hK.out _ _ ⟨(BF.out.cell (p := ⟨bt, 1, none⟩) lt1).trans t1, (BF.out.cell (p := ⟨bt, 2, none⟩) lt1).trans t2⟩ (fun hHeld => ?_)
          clear hK K
          try simp only [Act.put, List.setIfInBounds_toArray, List.set_cons_zero, List.set_cons_succ]
          refine wpAnyH_ready (rs := [6]) (by kernel_rfl) (by simp) ?_
          refine AllReadyH.cons (by simp only [List.getElem?_toArray, List.getElem?_cons_zero, List.getElem?_cons_succ]; rfl) (fun K hKK => ?_) ?_
          · skip
            go_simp
            (with_reducible refine (dv_write D5.out BF.out o.a Af nf kf (fillB o.c) (by decide) (by omega) Rf.out Mf.out Nf.out).mono ?_)
            rintro e w8 ⟨rfl, O8, hD, hKp, hO⟩
            clear hHeld
            go_wp2_with fail
            have s1 := (World.cell?_of_block (a := ⟨bt, 1, none⟩) (hKp.2 _ lt1 NBT.out)).trans t1
            have s2 := (World.cell?_of_block (a := ⟨bt, 2, none⟩) (hKp.2 _ lt1 NBT.out)).trans t2
            refine hKK.out _ _ ⟨s1, s2⟩ (fun hHeld => ?_)
            have D8 := Lib.hid hD
            have KX8 := Lib.hid (KX5.out.next hKp hO)
            have lt8 := Nat.lt_of_lt_of_le lt1 hKp.1.size
            have lt8 : bt < w8.heap.size := by have := hKp.1.size; have := BF.out.size; first | omega | exact lt8
            clear hKK K hD hKp hO t1 t2 lt1 D5 KX5 KX7 BF Rf Mf Nf
            have hW : (dkIn d o.a = true ∧ 0 ≤ o.a ∧ o.a < 6 ∧ dkWrite d o.a (fillB o.c) = ({ d with p := d.p ++ [(o.a.toNat, fillB o.c)] }, 0)) ∨ dkWrite d o.a (fillB o.c) = (d, 3) := by
              by_cases hin : dkIn d o.a = true
              · have hi := in_out15 MK.out.ok hin
                exact Or.inl ⟨hin, hi.1, hi.2, write_yes MK.out.f (fill_len o.c) hin⟩
              · exact Or.inr (write_no MK.out.f (fill_len o.c) (by simpa using hin))
            rcases hW with ⟨_, a0, a6, hW⟩ | hW
            · rw [hW] at D8 ⊢
              refine wpAnyH_take (i := 7) (v := ?vv4007) (by simp only [List.getElem?_toArray, List.getElem?_cons_zero, List.getElem?_cons_succ]; rfl) (by kernel_rfl) (by kernel_rfl) (by kernel_rfl) (fun _ _ _ h => h) (Or.inl ⟨by rfl, ?yy4007⟩) (by assumption) ?rr4007
              case yy4007 => (intro w hSw; (try dsimp only at hSw); go_simp; first | done | with_reducible rfl)
              simp only [Act.put, List.setIfInBounds_toArray, List.set_cons_zero, List.set_cons_succ]
              refine wpAnyH_done (by kernel_rfl) ?_ _
              refine NoPanic.normal ?_
              clear hHeld
              obtain ⟨p, hp⟩ : ∃ p : Nat, o.a = p := ⟨o.a.toNat, by omega⟩
              have MW := Lib.hid (MK.out.write p (by omega) (fillB o.c) (fill_len o.c))
              rw [hp, Int.toNat_natCast] at D8
              rw [hp] at s1
              by_cases pk : p = K
              · have ea : ((p : Int) == (K : Int)) = true := by simp [pk]
                by_cases qT : (q : Int) = T
                · have eT : ((q : Int) == T) = true := by simp [qT]
                  have MW2 := Lib.hid MW.out
                  rw [if_pos pk, if_pos qT] at MW2
                  clear pk qT hp MW a0 a6 hW
                  go_wp2_with fail
                  go_roundg (n - (i + 1))
                  case measure => have := HGG.out; have := KN.out; omega
                  case rel => exact ⟨i + 1, q + 1, _, O8, ([], 41), none, 0, 0, by have := KN.out; omega, rfl, by go_num, by go_num, rfl, rfl, rfl, by have := QI.out; show _ ≤ _; omega, D8, MW2, ⟨Rg.nil _ _ _, fun z => by simp at z⟩⟩
                · have eT : ((q : Int) == T) = false := by simpa using qT
                  by_cases qY : q < nY
                  · have dq : decide ((q : Int) < (nY : Int)) = true := decide_eq_true (by omega)
                    have dq' : decide (q < nY) = true := decide_eq_true qY
                    have qY' : (q : Int) < (nY : Int) := by omega
                    have q0 : (0 : Int) ≤ (q : Int) := by omega
                    obtain ⟨bY, oY, rfl, lY, cYY⟩ := HY.out (by rw [← LY.out]; omega)
                    obtain ⟨kv, gk2⟩ : ∃ kv, keep[q]? = some kv := ⟨_, List.getElem?_eq_getElem (by rw [← LY.out]; exact qY)⟩
                    have ck : w8.cell? ⟨bY, oY + q, none⟩ = some (.bool kv) := by
                      have e := flat_get qcells_len keep q 0 kv gk2 (by decide)
                      rw [Nat.mul_one, Nat.add_zero] at e
                      exact (D8.out.bl.cell (p := ⟨bY, oY + q, none⟩) lY).trans (cYY q _ (e.trans rfl))
                    have MW2 := Lib.hid MW.out
                    rw [if_pos pk, if_neg qT, List.getD_eq_getElem?_getD, gk2, Option.getD_some] at MW2
                    clear cYY gk2 pk qT qY hp MW a0 a6 hW
                    cases kv with
                    | true =>
                      rw [if_pos rfl] at MW2
                      go_wp2_with fail
                      refine (CF.out _).mono ?_
                      rintro e w9 ⟨Ag, kg, ng, rfl, h1, h2, hbg, h4, h5, h6⟩
                      have D9 := Lib.hid (D8.out.below hbg)
                      have KG := Lib.hid (KR.new D8.out h2 h6)
                      have MG := Lib.hid h1
                      clear h1 h2 hbg h4 h5 h6 D8 KX8
                      go_wp2_with fail
                      go_roundg (n - (i + 1))
                      case measure => have := HGG.out; have := KN.out; omega
                      case rel => exact ⟨i + 1, q + 1, _, O8, (fillB o.c, 0), Ag, ng, kg, by have := KN.out; omega, rfl, by go_num, by go_num, rfl, rfl, MG, by have := QI.out; show _ ≤ _; omega, D9, MW2, KG⟩
                    | false =>
                      rw [if_neg (by decide)] at MW2
                      go_wp2_with fail
                      go_roundg (n - (i + 1))
                      case measure => have := HGG.out; have := KN.out; omega
                      case rel => exact ⟨i + 1, q + 1, _, O8, R, Ax, nx, cx, by have := KN.out; omega, rfl, by go_num, by go_num, rfl, rfl, XL, by have := QI.out; show _ ≤ _; omega, D8, MW2, KX8⟩
                  · have dq : decide ((q : Int) < (nY : Int)) = false := decide_eq_false (by omega)
                    have dq' : decide (q < nY) = false := decide_eq_false qY
                    have MW2 := Lib.hid MW.out
                    rw [if_pos pk, if_neg qT, List.getD_eq_getElem?_getD, List.getElem?_eq_none (by rw [← LY.out]; omega), Option.getD_none, if_neg (by decide)] at MW2
                    clear pk qT qY hp MW a0 a6 hW
                    go_wp2_with fail
                    go_roundg (n - (i + 1))
                    case measure => have := HGG.out; have := KN.out; omega
                    case rel => exact ⟨i + 1, q + 1, _, O8, R, Ax, nx, cx, by have := KN.out; omega, rfl, by go_num, by go_num, rfl, rfl, XL, by have := QI.out; show _ ≤ _; omega, D8, MW2, KX8⟩
              · have ea : ((p : Int) == (K : Int)) = false := by simp; omega
                have MW2 := Lib.hid MW.out
                rw [if_neg pk] at MW2
                clear pk hp MW a0 a6 hW
                go_wp2_with fail
                go_roundg (n - (i + 1))
                case measure => have := HGG.out; have := KN.out; omega
                case rel => exact ⟨i + 1, q + 1, _, O8, R, Ax, nx, cx, by have := KN.out; omega, rfl, by go_num, by go_num, rfl, rfl, XL, by have := QI.out; show _ ≤ _; omega, D8, MW2, KX8⟩
            · rw [hW] at D8 ⊢
              refine wpAnyH_take (i := 7) (v := ?vv4017) (by simp only [List.getElem?_toArray, List.getElem?_cons_zero, List.getElem?_cons_succ]; rfl) (by kernel_rfl) (by kernel_rfl) (by kernel_rfl) (fun _ _ _ h => h) (Or.inl ⟨by rfl, ?yy4017⟩) (by assumption) ?rr4017
              case yy4017 => (intro w hSw; (try dsimp only at hSw); go_simp; first | done | with_reducible rfl)
              simp only [Act.put, List.setIfInBounds_toArray, List.set_cons_zero, List.set_cons_succ]
              refine wpAnyH_done (by kernel_rfl) ?_ _
              refine NoPanic.normal ?_
              clear hHeld s1 s2 hW
              go_wp2_with fail
              go_roundg (n - (i + 1))
              case measure => have := HGG.out; have := KN.out; omega
              case rel => exact ⟨i + 1, q, _, O8, R, Ax, nx, cx, by have := KN.out; omega, rfl, by go_num, rfl, rfl, rfl, XL, by have := QI.out; show _ ≤ _; omega, D8, MK, KX8⟩
          exact AllReadyH.nil
        exact AllReadyH.nil
      · obtain rfl : i = n := by omega
        clear kn hi
        go_wp2_with fail
        refine (dv_pend DK.out).mono ?_
        rintro e w5 ⟨rfl, hb5⟩
        rw [MK.out.m]
        have D5 := Lib.hid (DK.out.below hb5)
        have KX5 := Lib.hid (KX.out.below hb5)
        clear hb5 DK KX
        have q3 : q ≤ 300 := by have := QI.out; omega
        go_wp2_with fail
        refine (dv_crash D5.out keep T Y nY cY (by decide) (by omega) (HY.out.below D5.out.bl) LY.out (fun h0 a e z => by have := rg_low HY.out h0 a e; have := (D5.out.di.lt _ z).1; have := D5.out.hB; omega)).mono ?_
        rintro e w6 ⟨rfl, O6, hD, hK, hO⟩
        have D6 := Lib.hid hD
        have KX6 := Lib.hid (KX5.out.next hK hO)
        have RD := Lib.hid (MK.out.read K8.out)
        clear hD hK hO D5 KX5
        obtain ⟨d6, hd6⟩ : ∃ d6, d6 = dkCrash d keep T := ⟨_, rfl⟩
        have P6 : Hid (d6.p.length = 0) := by show _ = _; rw [hd6]; rfl
        rw [← hd6] at D6 RD
        clear hd6
        go_wp2_with fail
        refine (dv_read D6.out (K : Int) (by decide) (by decide)).mono ?_
        rw [RD.out]
        rintro e w7 ⟨Ay, ny, cy, rfl, h1, h2, hb7, h3, h4, h5⟩
        have D7 := Lib.hid (D6.out.below hb7)
        have tx1 := text_of (c := cx) (KX6.out.below hb7).1 XL.out
        have ty1 := text_of (c := cy) h2 h1
        have ne := tx_same_yes R.1
        have ee : (R.2 == R.2) = true := by simp
        clear h1 h2 hb7 h3 h4 h5 D6 KX6
        go_wp2_with fail
        refine (dv_pend D7.out).mono ?_
        rintro e w8 ⟨rfl, hb8⟩
        rw [P6.out]
        have D8 := Lib.hid (D7.out.below hb8)
        clear hb8 D7
        go_wp2_with fail
        go_ret
        exact ⟨rfl, D8.out.bl⟩

end Go.Proofs.Ytpdedeaejlkokaa
