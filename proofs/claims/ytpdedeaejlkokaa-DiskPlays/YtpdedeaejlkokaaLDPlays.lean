/-
  DiskPlays: the walk.
-/
import Derived.Test.YtpdedeaejlkokaaDPlain
namespace Go.Proofs.Ytpdedeaejlkokaa
open Go.RowKit

set_option maxHeartbeats 8000000 in
set_option maxRecDepth 100000 in
theorem law_dplays (sec : Int) (A : Option Addr) (n c : Nat) (os : List Dop) (w : World) (H : Scr w A n c os) : Calls Try.prog 3 #[.int .i64 sec, .slice A n c] w fun e w' => e = .returned (.bool true) ∧ Below w.heap.size w w' := by
  have HS := Lib.hid H
  clear H
  go_enter Try.func3, Try.ntmps3
  go_wp2_with fail
  refine (head15 _).mono ?_
  rintro e w1 ⟨rfl, hb⟩
  have B1 := Lib.hid hb
  clear hb
  go_wp2_with fail
  refine (great15 A n c os _ (HS.out.r.below B1.out) HS.out.l).mono ?_
  rintro e w2 ⟨bb, rfl, hg, hb⟩
  have B2 := Lib.hid (chain B1.out hb)
  have HG := Lib.hid hg
  clear hb hg B1
  cases bb with
  | true =>
    go_wp2_with fail
    go_ret
    exact ⟨rfl, B2.out⟩
  | false =>
    have FT := Lib.hid (HG.out rfl)
    have n3 : n ≤ 300 := by rw [HS.out.l]; exact FT.out.1
    by_cases s0 : 0 ≤ sec ∧ sec ≤ 4096
    · obtain ⟨m, rfl⟩ : ∃ m : Nat, sec = m := ⟨sec.toNat, by omega⟩
      have d4 : decide ((m : Int) ≤ 4096) = true := decide_eq_true s0.2
      have d4' : decide (m ≤ 4096) = true := decide_eq_true (by omega)
      by_cases s6 : 60 < m
      · have d6 : decide (60 < (m : Int)) = true := decide_eq_true (by omega)
        have d6' : decide (60 < m) = true := decide_eq_true s6
        clear s0 s6
        go_wp2_with fail
        go_ret
        exact ⟨rfl, B2.out⟩
      have d6 : decide (60 < (m : Int)) = false := decide_eq_false (by omega)
      have d6' : decide (60 < m) = false := decide_eq_false s6
      have m6 : m ≤ 60 := by omega
      have m5 : m ≤ 5000 := by omega
      clear s0 s6
      go_wp2_with fail
      refine (dv_new m (by omega) B2.out).mono ?_
      rintro e w3 ⟨g, P, rfl, hD, _⟩
      have D1 := Lib.hid hD
      clear hD
      go_wp2_with fail
      refine (rv_new m (by omega) D1.out.bl).mono ?_
      rintro e w4 ⟨h, Q, rfl, hD, hb⟩
      have D2 := Lib.hid hD
      have NN : Hid (∀ b, P b → ¬ Q b) := fun b z y => by have := (D1.out.di.lt b z).2; have := (D2.out.di.lt b y).1; omega
      replace D1 := Lib.hid (D1.out.below hb)
      clear hD hb B2
      obtain ⟨X, hX⟩ : ∃ X, X = w2.heap.size := ⟨_, rfl⟩
      obtain ⟨Y, hY⟩ : ∃ Y, Y = w3.heap.size := ⟨_, rfl⟩
      rw [← hX] at D1
      rw [← hY] at D2
      clear hX hY
      go_wp2_with fail
      go_loopg [8] n (fun gh s8 wx => ∃ (i : Nat) (d : Dk) (P Q : Nat → Prop), i ≤ n ∧ Hid (gh = n - i) ∧ s8 = .int .i64 (i : Int) ∧ Hid (DV w X m i d g P wx) ∧ Hid (RV w Y m i d h Q wx) ∧ Hid (∀ b, P b → ¬ Q b))
      case atStart => exact ⟨0, _, P, Q, Nat.zero_le _, by show _ = _; omega, rfl, D1, D2, NN⟩
      case round =>
        clear D1 D2 NN
        obtain ⟨i, d, P, Q, hi, HGG, rfl, D1, D2, NN⟩ := hrel
        by_cases kn : i < n
        · have ki : (i : Int) < (n : Int) := by omega
          have k0 : (0 : Int) ≤ (i : Int) := by omega
          obtain ⟨o, _, ob, bk, off, hb, hq, rfl, HB1, HQ1, cc⟩ := HS.out.at kn
          have OB := Lib.hid ob; have HBH := Lib.hid HB1; have HQH := Lib.hid HQ1; have KN := Lib.hid kn; have CC := Lib.hid cc
          clear cc HB1 HQ1 ob kn
          go_wp2_with fail
          refine wp_region_noPanic ?_
          refine wp_region_held_drew (S := fun w' => Below w.heap.size w w') (by kernel_rfl) D1.out.bl.drew (fun hHeld => ?_)
          replace D1 := Lib.hid (D1.out.below (below_drew _))
          replace D2 := Lib.hid (D2.out.below (below_drew _))
          generalize wr.drew = w5 at D1 D2 hHeld ⊢
          refine wpAnyH_take (i := 0) (v := ?vv6000) (by simp only [List.getElem?_toArray, List.getElem?_cons_zero]; rfl) (by kernel_rfl) (by kernel_rfl) (by kernel_rfl) (fun _ _ _ h => h) (Or.inl ⟨by rfl, ?yy6000⟩) (by assumption) ?rr6000
          case yy6000 => (intro w' hSw; go_simp; first | done | with_reducible rfl)
          simp only [Act.put, List.setIfInBounds_toArray, List.set_cons_zero, List.set_cons_succ]
          refine wpAnyH_take (i := 1) (v := ?vv6001) (by simp only [List.getElem?_toArray, List.getElem?_cons_zero, List.getElem?_cons_succ]; rfl) (by kernel_rfl) (by kernel_rfl) (by kernel_rfl) (fun _ _ _ h => h) (Or.inl ⟨by rfl, ?yy6001⟩) (by assumption) ?rr6001
          case yy6001 => (intro w' hSw; go_simp; first | done | with_reducible rfl)
          simp only [Act.put, List.setIfInBounds_toArray, List.set_cons_zero, List.set_cons_succ]
          refine wpAnyH_take (i := 2) (v := ?vv6002) (by simp only [List.getElem?_toArray, List.getElem?_cons_zero, List.getElem?_cons_succ]; rfl) (by kernel_rfl) (by kernel_rfl) (by kernel_rfl) (fun _ _ _ h => h) (Or.inl ⟨by rfl, ?yy6002⟩) (by assumption) ?rr6002
          case yy6002 => (intro w' hSw; go_simp; first | done | with_reducible rfl)
          simp only [Act.put, List.setIfInBounds_toArray, List.set_cons_zero, List.set_cons_succ]
          refine wpAnyH_take (i := 3) (v := ?vv6003) (by simp only [List.getElem?_toArray, List.getElem?_cons_zero, List.getElem?_cons_succ]; rfl) (by kernel_rfl) (by kernel_rfl) (by kernel_rfl) (fun _ _ _ h => h) (Or.inl ⟨by rfl, ?yy6003⟩) (by assumption) ?rr6003
          case yy6003 => (intro w' hSw; go_simp; first | done | with_reducible rfl)
          simp only [Act.put, List.setIfInBounds_toArray, List.set_cons_zero, List.set_cons_succ]
          refine wpAnyH_take (i := 4) (v := ?vv6004) (by simp only [List.getElem?_toArray, List.getElem?_cons_zero, List.getElem?_cons_succ]; rfl) (by kernel_rfl) (by kernel_rfl) (by kernel_rfl) (fun _ _ _ h => h) (Or.inl ⟨by rfl, ?yy6004⟩) (by assumption) ?rr6004
          case yy6004 => (intro w' hSw; obtain ⟨r0, r1, r2, r3, r4, r5⟩ := CC.out w' hSw; go_simp; first | done | with_reducible rfl)
          simp only [Act.put, List.setIfInBounds_toArray, List.set_cons_zero, List.set_cons_succ]
          refine wpAnyH_take (i := 6) (v := ?vv6006) (by simp only [List.getElem?_toArray, List.getElem?_cons_zero, List.getElem?_cons_succ]; rfl) (by kernel_rfl) (by kernel_rfl) (by kernel_rfl) (fun _ _ _ h => h) (Or.inl ⟨by rfl, ?yy6006⟩) (by assumption) ?rr6006
          case yy6006 => (intro w' hSw; go_simp; first | done | with_reducible rfl)
          simp only [Act.put, List.setIfInBounds_toArray, List.set_cons_zero, List.set_cons_succ]
          refine wpAnyH_take (i := 7) (v := ?vv6007) (by simp only [List.getElem?_toArray, List.getElem?_cons_zero, List.getElem?_cons_succ]; rfl) (by kernel_rfl) (by kernel_rfl) (by kernel_rfl) (fun _ _ _ h => h) (Or.inl ⟨by rfl, ?yy6007⟩) (by assumption) ?rr6007
          case yy6007 => (intro w' hSw; go_simp; first | done | with_reducible rfl)
          simp only [Act.put, List.setIfInBounds_toArray, List.set_cons_zero, List.set_cons_succ]
          refine wpAnyH_take (i := 8) (v := ?vv6008) (by simp only [List.getElem?_toArray, List.getElem?_cons_zero, List.getElem?_cons_succ]; rfl) (by kernel_rfl) (by kernel_rfl) (by kernel_rfl) (fun _ _ _ h => h) (Or.inl ⟨by rfl, ?yy6008⟩) (by assumption) ?rr6008
          case yy6008 => (intro w' hSw; go_simp; first | done | with_reducible rfl)
          simp only [Act.put, List.setIfInBounds_toArray, List.set_cons_zero, List.set_cons_succ]
          refine wpAnyH_take (i := 9) (v := ?vv6009) (by simp only [List.getElem?_toArray, List.getElem?_cons_zero, List.getElem?_cons_succ]; rfl) (by kernel_rfl) (by kernel_rfl) (by kernel_rfl) (fun _ _ _ h => h) (Or.inl ⟨by rfl, ?yy6009⟩) (by assumption) ?rr6009
          case yy6009 => (intro w' hSw; go_simp; first | done | with_reducible rfl)
          simp only [Act.put, List.setIfInBounds_toArray, List.set_cons_zero, List.set_cons_succ]
          refine wpAnyH_take (i := 10) (v := ?vv6010) (by simp only [List.getElem?_toArray, List.getElem?_cons_zero, List.getElem?_cons_succ]; rfl) (by kernel_rfl) (by kernel_rfl) (by kernel_rfl) (fun _ _ _ h => h) (Or.inl ⟨by rfl, ?yy6010⟩) (by assumption) ?rr6010
          case yy6010 => (intro w' hSw; obtain ⟨r0, r1, r2, r3, r4, r5⟩ := CC.out w' hSw; go_simp; first | done | with_reducible rfl)
          simp only [Act.put, List.setIfInBounds_toArray, List.set_cons_zero, List.set_cons_succ]
          refine wpAnyH_ready (rs := [5]) (by kernel_rfl) (by simp) ?_
          refine AllReadyH.cons (by simp only [List.getElem?_toArray, List.getElem?_cons_zero, List.getElem?_cons_succ]; rfl) (fun K hK => ?_) AllReadyH.nil
          go_simp
          (with_reducible refine (dv_do D1.out o hb hq m5 (by omega) HBH.out HQH.out OB.out).mono ?_)
          rintro e w6 ⟨rfl, P6, hD, hK6, hO⟩
          have N6 : Hid (∀ b, P6 b → ¬ Q b) := fun b z y => (hO b z).elim (fun u => NN.out b u y) (fun u => by have := (D2.out.di.lt b y).2; omega)
          replace D2 := Lib.hid (D2.out.kept hK6 D1.out.hB (fun b z y => NN.out b y z))
          replace D1 := Lib.hid hD
          replace NN := N6
          clear hD hK6 hO N6
          generalize P6 = P at D1 NN
          clear hHeld
          go_wp2_with fail
          refine hK.out _ _ D1.out.bl (fun hHeld => ?_)
          clear hK K
          try simp only [Act.put, List.setIfInBounds_toArray, List.set_cons_zero, List.set_cons_succ]
          refine wpAnyH_ready (rs := [11]) (by kernel_rfl) (by simp) ?_
          refine AllReadyH.cons (by simp only [List.getElem?_toArray, List.getElem?_cons_zero, List.getElem?_cons_succ]; rfl) (fun K hK => ?_) AllReadyH.nil
          go_simp
          (with_reducible refine (rv_do D2.out o hb hq m5 (by omega) HBH.out HQH.out OB.out).mono ?_)
          rintro e w7 ⟨rfl, Q7, hD, hK7, hO⟩
          have N7 : Hid (∀ b, P b → ¬ Q7 b) := fun b y z => (hO b z).elim (fun u => NN.out b y u) (fun u => by have := (D1.out.di.lt b y).2; omega)
          replace D1 := Lib.hid (D1.out.kept hK7 D2.out.hB (fun b z y => NN.out b z y))
          replace D2 := Lib.hid hD
          replace NN := N7
          clear hD hK7 hO N7
          generalize Q7 = Q at D2 NN
          clear hHeld
          go_wp2_with fail
          refine hK.out _ _ D1.out.bl (fun hHeld => ?_)
          clear hK K
          try simp only [Act.put, List.setIfInBounds_toArray, List.set_cons_zero, List.set_cons_succ]
          obtain ⟨E, hE⟩ : ∃ E, E = (dkDo d o).2 := ⟨_, rfl⟩
          obtain ⟨d', hd'⟩ : ∃ d', d' = (dkDo d o).1 := ⟨_, rfl⟩
          rw [← hE]
          rw [← hd'] at D1 D2
          have ee : (E != E) = false := by simp
          clear hE hd'
          refine wpAnyH_take (i := 12) (v := ?vv6012) (by simp only [List.getElem?_toArray, List.getElem?_cons_zero, List.getElem?_cons_succ]; rfl) (by kernel_rfl) (by kernel_rfl) (by kernel_rfl) (fun _ _ _ h => h) (Or.inl ⟨by rfl, ?yy6012⟩) (by assumption) ?rr6012
          case yy6012 => (intro w' hSw; go_simp; first | done | with_reducible rfl)
          simp only [Act.put, List.setIfInBounds_toArray, List.set_cons_zero, List.set_cons_succ]
          refine wpAnyH_take (i := 13) (v := ?vv6013) (by simp only [List.getElem?_toArray, List.getElem?_cons_zero, List.getElem?_cons_succ]; rfl) (by kernel_rfl) (by kernel_rfl) (by kernel_rfl) (fun _ _ _ h => h) (Or.inl ⟨by rfl, ?yy6013⟩) (by assumption) ?rr6013
          case yy6013 => (intro w' hSw; go_simp; first | done | with_reducible rfl)
          simp only [Act.put, List.setIfInBounds_toArray, List.set_cons_zero, List.set_cons_succ]
          refine wpAnyH_take (i := 14) (v := ?vv6014) (by simp only [List.getElem?_toArray, List.getElem?_cons_zero, List.getElem?_cons_succ]; rfl) (by kernel_rfl) (by kernel_rfl) (by kernel_rfl) (fun _ _ _ h => h) (Or.inl ⟨by rfl, ?yy6014⟩) (by assumption) ?rr6014
          case yy6014 => (intro w' hSw; go_simp; first | done | with_reducible rfl)
          simp only [Act.put, List.setIfInBounds_toArray, List.set_cons_zero, List.set_cons_succ]
          refine wpAnyH_take (i := 16) (v := ?vv6016) (by simp only [List.getElem?_toArray, List.getElem?_cons_zero, List.getElem?_cons_succ]; rfl) (by kernel_rfl) (by kernel_rfl) (by kernel_rfl) (fun _ _ _ h => h) (Or.inl ⟨by rfl, ?yy6016⟩) (by assumption) ?rr6016
          case yy6016 => (intro w' hSw; go_simp; first | done | with_reducible rfl)
          simp only [Act.put, List.setIfInBounds_toArray, List.set_cons_zero, List.set_cons_succ]
          refine wpAnyH_ready (rs := [15]) (by kernel_rfl) (by simp) ?_
          refine AllReadyH.cons (by simp only [List.getElem?_toArray, List.getElem?_cons_zero, List.getElem?_cons_succ]; rfl) (fun K hK => ?_) AllReadyH.nil
          go_simp
          (with_reducible refine (dv_pend D1.out).mono ?_)
          rintro e w8 ⟨rfl, hbp⟩
          replace D1 := Lib.hid (D1.out.below hbp)
          replace D2 := Lib.hid (D2.out.below hbp)
          clear hbp
          clear hHeld
          go_wp2_with fail
          refine hK.out _ _ D1.out.bl (fun hHeld => ?_)
          clear hK K
          try simp only [Act.put, List.setIfInBounds_toArray, List.set_cons_zero, List.set_cons_succ]
          refine wpAnyH_ready (rs := [17]) (by kernel_rfl) (by simp) ?_
          refine AllReadyH.cons (by simp only [List.getElem?_toArray, List.getElem?_cons_zero, List.getElem?_cons_succ]; rfl) (fun K hK => ?_) AllReadyH.nil
          go_simp
          (with_reducible refine (rv_pend D2.out).mono ?_)
          rintro e w9 ⟨rfl, hbp⟩
          replace D1 := Lib.hid (D1.out.below hbp)
          replace D2 := Lib.hid (D2.out.below hbp)
          clear hbp
          clear hHeld
          go_wp2_with fail
          refine hK.out _ _ D1.out.bl (fun hHeld => ?_)
          clear hK K
          try simp only [Act.put, List.setIfInBounds_toArray, List.set_cons_zero, List.set_cons_succ]
          obtain ⟨L, hL⟩ : ∃ L, L = d'.p.length := ⟨_, rfl⟩
          rw [← hL]
          have el : ((L : Int) != (L : Int)) = false := by simp
          clear hL
          refine wpAnyH_take (i := 18) (v := ?vv6018) (by simp only [List.getElem?_toArray, List.getElem?_cons_zero, List.getElem?_cons_succ]; rfl) (by kernel_rfl) (by kernel_rfl) (by kernel_rfl) (fun _ _ _ h => h) (Or.inl ⟨by rfl, ?yy6018⟩) (by assumption) ?rr6018
          case yy6018 => (intro w' hSw; go_simp; first | done | with_reducible rfl)
          simp only [Act.put, List.setIfInBounds_toArray, List.set_cons_zero, List.set_cons_succ]
          refine wpAnyH_take (i := 19) (v := ?vv6019) (by simp only [List.getElem?_toArray, List.getElem?_cons_zero, List.getElem?_cons_succ]; rfl) (by kernel_rfl) (by kernel_rfl) (by kernel_rfl) (fun _ _ _ h => h) (Or.inl ⟨by rfl, ?yy6019⟩) (by assumption) ?rr6019
          case yy6019 => (intro w' hSw; go_simp; first | done | with_reducible rfl)
          simp only [Act.put, List.setIfInBounds_toArray, List.set_cons_zero, List.set_cons_succ]
          refine wpAnyH_take (i := 20) (v := ?vv6020) (by simp only [List.getElem?_toArray, List.getElem?_cons_zero, List.getElem?_cons_succ]; rfl) (by kernel_rfl) (by kernel_rfl) (by kernel_rfl) (fun _ _ _ h => h) (Or.inl ⟨by rfl, ?yy6020⟩) (by assumption) ?rr6020
          case yy6020 => (intro w' hSw; go_simp; first | done | with_reducible rfl)
          simp only [Act.put, List.setIfInBounds_toArray, List.set_cons_zero, List.set_cons_succ]
          refine wpAnyH_take (i := 21) (v := ?vv6021) (by simp only [List.getElem?_toArray, List.getElem?_cons_zero, List.getElem?_cons_succ]; rfl) (by kernel_rfl) (by kernel_rfl) (by kernel_rfl) (fun _ _ _ h => h) (Or.inl ⟨by rfl, ?yy6021⟩) (by assumption) ?rr6021
          case yy6021 => (intro w' hSw; go_simp; first | done | with_reducible rfl)
          simp only [Act.put, List.setIfInBounds_toArray, List.set_cons_zero, List.set_cons_succ]
          refine wpAnyH_take (i := 23) (v := ?vv6023) (by simp only [List.getElem?_toArray, List.getElem?_cons_zero, List.getElem?_cons_succ]; rfl) (by kernel_rfl) (by kernel_rfl) (by kernel_rfl) (fun _ _ _ h => h) (Or.inl ⟨by rfl, ?yy6023⟩) (by assumption) ?rr6023
          case yy6023 => (intro w' hSw; go_simp; first | done | with_reducible rfl)
          simp only [Act.put, List.setIfInBounds_toArray, List.set_cons_zero, List.set_cons_succ]
          refine wpAnyH_ready (rs := [22]) (by kernel_rfl) (by simp) ?_
          refine AllReadyH.cons (by simp only [List.getElem?_toArray, List.getElem?_cons_zero, List.getElem?_cons_succ]; rfl) (fun K hK => ?_) AllReadyH.nil
          go_simp
          (with_reducible refine (dv_sect D1.out).mono ?_)
          rintro e w10 ⟨rfl, hbp⟩
          replace D1 := Lib.hid (D1.out.below hbp)
          replace D2 := Lib.hid (D2.out.below hbp)
          clear hbp
          clear hHeld
          go_wp2_with fail
          refine hK.out _ _ D1.out.bl (fun hHeld => ?_)
          clear hK K
          try simp only [Act.put, List.setIfInBounds_toArray, List.set_cons_zero, List.set_cons_succ]
          have em : ((m : Int) != (m : Int)) = false := by simp
          refine wpAnyH_take (i := 24) (v := ?vv6024) (by simp only [List.getElem?_toArray, List.getElem?_cons_zero, List.getElem?_cons_succ]; rfl) (by kernel_rfl) (by kernel_rfl) (by kernel_rfl) (fun _ _ _ h => h) (Or.inl ⟨by rfl, ?yy6024⟩) (by assumption) ?rr6024
          case yy6024 => (intro w' hSw; go_simp; first | done | with_reducible rfl)
          simp only [Act.put, List.setIfInBounds_toArray, List.set_cons_zero, List.set_cons_succ]
          refine wpAnyH_take (i := 25) (v := ?vv6025) (by simp only [List.getElem?_toArray, List.getElem?_cons_zero, List.getElem?_cons_succ]; rfl) (by kernel_rfl) (by kernel_rfl) (by kernel_rfl) (fun _ _ _ h => h) (Or.inl ⟨by rfl, ?yy6025⟩) (by assumption) ?rr6025
          case yy6025 => (intro w' hSw; go_simp; first | done | with_reducible rfl)
          simp only [Act.put, List.setIfInBounds_toArray, List.set_cons_zero, List.set_cons_succ]
          refine wpAnyH_done (by kernel_rfl) ?_ _
          refine NoPanic.normal ?_
          clear hHeld
          go_wp2_with fail
          go_loopg [9] (m + 2) (fun gh s9 wx => ∃ (j : Nat), j ≤ m + 2 ∧ Hid (gh = m + 2 - j) ∧ s9 = .int .i64 ((j : Int) - 1) ∧ Hid (DV w X m (i + 1) d' g P wx) ∧ Hid (RV w Y m (i + 1) d' h Q wx))
          case atStart => exact ⟨0, Nat.zero_le _, by show _ = _; omega, rfl, D1, D2⟩
          case round =>
            clear D1 D2
            obtain ⟨j, hj, HGJ, rfl, D1, D2⟩ := hrel
            obtain ⟨q, hq⟩ : ∃ q, q = (j : Int) - 1 := ⟨_, rfl⟩
            rw [← hq]
            by_cases kj : j < m + 2
            · have dq : decide (q ≤ (m : Int)) = true := decide_eq_true (by omega)
              have qm : q ≤ (m : Int) := by omega
              have q0 : -1 ≤ q := by omega
              have KJ := Lib.hid kj
              have HQQ := Lib.hid hq
              clear kj hj hq
              go_wp2_with fail
              refine (dv_read D1.out q m5 (by omega)).mono ?_
              obtain ⟨R, hR⟩ : ∃ R, R = dkRead d' q := ⟨_, rfl⟩
              rw [← hR]
              rintro e w11 ⟨Ax, nx, cx, rfl, h1, h2, hb7, _, _, _⟩
              replace D1 := Lib.hid (D1.out.below hb7)
              replace D2 := Lib.hid (D2.out.below hb7)
              have RX := Lib.hid h2; have MX := Lib.hid h1
              have HR := Lib.hid hR
              clear h1 h2 hb7 hR
              go_wp2_with fail
              refine (rv_read D2.out q m5 (by omega)).mono ?_
              rw [← HR.out]
              rintro e w12 ⟨Ay, ny, cy, rfl, h1, h2, hb8, _, _, _⟩
              replace D1 := Lib.hid (D1.out.below hb8)
              replace D2 := Lib.hid (D2.out.below hb8)
              have tx1 := text_of (c := cx) (RX.out.below hb8) MX.out
              have ty1 := text_of (c := cy) h2 h1
              have ne := tx_same_yes R.1
              have e2 : (R.2 != R.2) = false := by simp
              clear h1 h2 hb8 HR RX MX
              go_wp2_with fail
              go_roundg (m + 2 - (j + 1))
              case measure => have := HGJ.out; have := KJ.out; omega
              case rel => exact ⟨j + 1, by have := KJ.out; omega, rfl, by rw [HQQ.out]; congr 1; omega, D1, D2⟩
            · have dq : decide (q ≤ (m : Int)) = false := decide_eq_false (by omega)
              clear kj hj hq
              go_wp2_with fail
              go_roundg (n - (i + 1))
              case measure => have := HGG.out; have := KN.out; omega
              case rel => exact ⟨i + 1, d', P, Q, by have := KN.out; omega, rfl, by go_num, D1, D2, NN⟩
        · obtain rfl : i = n := by omega
          go_wp2_with fail
          go_ret
          exact ⟨rfl, D1.out.bl⟩
    · have C1 := fun v => new15_no sec s0 v
      have C2 := fun v => rnew15_no sec s0 v
      by_cases s6 : 60 < sec
      · have d6 : decide (60 < sec) = true := decide_eq_true s6
        have d4 : decide (sec ≤ 4096) = false := decide_eq_false (by omega)
        clear s0 s6
        go_wp2_with fail
        refine (C1 _).mono ?_
        rintro e w3 ⟨rfl, hb⟩
        have B3 := Lib.hid (chain B2.out hb)
        clear hb B2
        go_wp2_with fail
        refine (C2 _).mono ?_
        rintro e w4 ⟨rfl, hb⟩
        have B4 := Lib.hid (chain B3.out hb)
        clear hb B3
        go_wp2_with fail
        go_ret
        exact ⟨rfl, B4.out⟩
      · have d6 : decide (60 < sec) = false := decide_eq_false s6
        clear s0 s6
        go_wp2_with fail
        refine (C1 _).mono ?_
        rintro e w3 ⟨rfl, hb⟩
        have B3 := Lib.hid (chain B2.out hb)
        clear hb B2
        go_wp2_with fail
        refine (C2 _).mono ?_
        rintro e w4 ⟨rfl, hb⟩
        have B4 := Lib.hid (chain B3.out hb)
        clear hb B3
        go_wp2_with fail
        go_ret
        exact ⟨rfl, B4.out⟩

end Go.Proofs.Ytpdedeaejlkokaa
