/-
  ShareKnown: parts of what both know join to that; added to parts they are parts of the sum.
-/
import Derived.Test.YtdigdfkecnddiaaHHead
import Derived.Deep.RegionHeld3
namespace Go.Proofs.Ytdigdfkecnddiaa
open Go.RowKit

set_option maxHeartbeats 4000000 in
set_option maxRecDepth 100000 in
theorem law_hknown_core (s : UInt64) (X Y : Option Addr) (cX nx cY ny n : Nat) (xs ys : List UInt64) (a : Int) (w : World) (hX : Rg ucells w X xs) (hY : Rg ucells w Y ys) (lX : n = xs.length) (lY : n = ys.length) (capX : nx ≤ cX) (capY : ny ≤ cY) (hc : (n = nx ∧ n ≤ ny ∧ n ≤ ny) ∨ (n = ny ∧ n < nx ∧ n ≤ nx)) :
    Calls Try.prog 10 #[.int .u64 (uz s), .slice X nx cX, .slice Y ny cY, .int .i64 a] w fun e w' => e = .returned (.bool true) ∧ Below w.heap.size w w' := by
  have RX := Lib.hid hX; have LX := Lib.hid lX; have RY := Lib.hid hY; have LY := Lib.hid lY
  clear hX lX hY lY
  rcases hc with ⟨h1, h2, h3⟩ | ⟨h1, h2, h3⟩
  · subst h1
    by_cases hg : 4096 < n
    · have d1 : decide (4096 < (n : Int)) = true := decide_eq_true (by omega)
      clear hg
      go_enter Try.func10, Try.ntmps10
      go_wp2_with fail
      refine (head10_any _).mono ?_
      rintro e w1 ⟨rfl, hb⟩
      have B1 := Lib.hid hb
      replace RX := Lib.hid (RX.out.below hb)
      replace RY := Lib.hid (RY.out.below hb)
      clear hb
      go_wp2_with fail
      go_ret
      exact ⟨rfl, B1.out⟩
    have d1 : decide (4096 < (n : Int)) = false := decide_eq_false (by omega)
    have n4 : n ≤ 4096 := by omega
    have H4 : Hid (xs.length ≤ 4096) := by show _ ≤ _; have := LX.out; omega
    have EL : Hid (xs.length = ys.length) := by show _ = _; rw [← LX.out, LY.out]
    have H5 : Hid (ys.length ≤ 4096) := by show _ ≤ _; have := LY.out; omega
    have kx : (n : Int) ≤ (cX : Int) := by omega
    have ky : (n : Int) ≤ (cY : Int) := by omega
    have kxn : n ≤ cX := by omega
    have kyn : n ≤ cY := by omega
    have kz : (0 : Int) ≤ (n : Int) := by omega
    clear hg
    by_cases hw : a = 0
    · have d2 : (a == 0) = true := by simp [hw]
      clear hw
      go_enter Try.func10, Try.ntmps10
      go_wp2_with fail
      refine (head10_any _).mono ?_
      rintro e w1 ⟨rfl, hb⟩
      have B1 := Lib.hid hb
      replace RX := Lib.hid (RX.out.below hb)
      replace RY := Lib.hid (RY.out.below hb)
      clear hb
      go_wp2_with fail
      go_ret
      exact ⟨rfl, B1.out⟩
    have d2 : (a == 0) = false := by simp [hw]
    have HW : Hid (a ≠ 0) := hw
    clear hw
    go_enter Try.func10, Try.ntmps10
    go_wp2_with fail
    refine (head10_any _).mono ?_
    rintro e w1 ⟨rfl, hb⟩
    have B1 := Lib.hid hb
    replace RX := Lib.hid (RX.out.below hb)
    replace RY := Lib.hid (RY.out.below hb)
    clear hb
    go_wp2_with fail
    refine (split10 s X cX n (xs) _ RX.out LX.out (by omega)).mono ?_
    rintro e w2 ⟨Aa, ka, na, Ab, kb, nb, rfl, h1, h2, h3, h4, hb, h5, h6, h7, h8⟩
    have Ma := Lib.hid h1; have Ra := Lib.hid h2; have Mb := Lib.hid h3; have Rb := Lib.hid h4
    clear h1 h2 h3 h4 h5 h6 h7 h8
    have B2 := Lib.hid (chain B1.out hb)
    replace RX := Lib.hid (RX.out.below hb)
    replace RY := Lib.hid (RY.out.below hb)
    clear hb B1
    go_wp2_with fail
    refine (part10 0 Y cY n (ys) _ RY.out LY.out (by omega)).mono ?_
    rintro e w3 ⟨Ap, kp, np, rfl, h1, h2, hb, h4, h5⟩
    have Mp := Lib.hid h1; have Rp := Lib.hid h2
    clear h1 h2 h4 h5
    have B3 := Lib.hid (chain B2.out hb)
    replace RX := Lib.hid (RX.out.below hb)
    replace RY := Lib.hid (RY.out.below hb)
    replace Ra := Lib.hid (Ra.out.below hb)
    replace Rb := Lib.hid (Rb.out.below hb)
    clear hb B2
    go_wp2_with fail
    refine (part10 a Y cY n (ys) _ RY.out LY.out (by omega)).mono ?_
    rintro e w4 ⟨Aq, kq, nq, rfl, h1, h2, hb, h4, h5⟩
    have Mq := Lib.hid h1; have Rq := Lib.hid h2
    clear h1 h2 h4 h5
    have B4 := Lib.hid (chain B3.out hb)
    replace RX := Lib.hid (RX.out.below hb)
    replace RY := Lib.hid (RY.out.below hb)
    replace Ra := Lib.hid (Ra.out.below hb)
    replace Rb := Lib.hid (Rb.out.below hb)
    replace Rp := Lib.hid (Rp.out.below hb)
    clear hb B3
    go_wp2_with fail
    refine wp_region_noPanic ?_
    refine wp_region_held_drew (S := fun _ => True) (by kernel_rfl) (by trivial) (fun hHeld => ?_)
    have hb := below_drew w4
    have B5 := Lib.hid (chain B4.out hb)
    replace RX := Lib.hid (RX.out.below hb)
    replace RY := Lib.hid (RY.out.below hb)
    replace Ra := Lib.hid (Ra.out.below hb)
    replace Rb := Lib.hid (Rb.out.below hb)
    replace Rp := Lib.hid (Rp.out.below hb)
    replace Rq := Lib.hid (Rq.out.below hb)
    clear hb B4
    refine wpAnyH_take (i := 0) (v := ?vv1) (by simp only [List.getElem?_toArray, List.getElem?_cons_zero]; rfl) (by kernel_rfl) (by kernel_rfl) (by kernel_rfl) (fun _ _ _ h => h) (Or.inl ⟨by rfl, ?yy1⟩) (by assumption) ?rr1
    case yy1 => (intro w hSw; go_simp; first | done | with_reducible rfl)
    simp only [Act.put, List.setIfInBounds_toArray, List.set_cons_zero, List.set_cons_succ]
    refine wpAnyH_take (i := 1) (v := ?vv2) (by simp only [List.getElem?_toArray, List.getElem?_cons_zero, List.getElem?_cons_succ]; rfl) (by kernel_rfl) (by kernel_rfl) (by kernel_rfl) (fun _ _ _ h => h) (Or.inl ⟨by rfl, ?yy2⟩) (by assumption) ?rr2
    case yy2 => (intro w hSw; go_simp; first | done | with_reducible rfl)
    simp only [Act.put, List.setIfInBounds_toArray, List.set_cons_zero, List.set_cons_succ]
    refine wpAnyH_take (i := 2) (v := ?vv3) (by simp only [List.getElem?_toArray, List.getElem?_cons_zero, List.getElem?_cons_succ]; rfl) (by kernel_rfl) (by kernel_rfl) (by kernel_rfl) (fun _ _ _ h => h) (Or.inl ⟨by rfl, ?yy3⟩) (by assumption) ?rr3
    case yy3 => (intro w hSw; go_simp; first | done | with_reducible rfl)
    simp only [Act.put, List.setIfInBounds_toArray, List.set_cons_zero, List.set_cons_succ]
    refine wpAnyH_take (i := 3) (v := ?vv4) (by simp only [List.getElem?_toArray, List.getElem?_cons_zero, List.getElem?_cons_succ]; rfl) (by kernel_rfl) (by kernel_rfl) (by kernel_rfl) (fun _ _ _ h => h) (Or.inl ⟨by rfl, ?yy4⟩) (by assumption) ?rr4
    case yy4 => (intro w hSw; go_simp; first | done | with_reducible rfl)
    simp only [Act.put, List.setIfInBounds_toArray, List.set_cons_zero, List.set_cons_succ]
    refine wpAnyH_take (i := 5) (v := ?vv5) (by simp only [List.getElem?_toArray, List.getElem?_cons_zero, List.getElem?_cons_succ]; rfl) (by kernel_rfl) (by kernel_rfl) (by kernel_rfl) (fun _ _ _ h => h) (Or.inl ⟨by rfl, ?yy5⟩) (by assumption) ?rr5
    case yy5 => (intro w hSw; go_simp; first | done | with_reducible rfl)
    simp only [Act.put, List.setIfInBounds_toArray, List.set_cons_zero, List.set_cons_succ]
    refine wpAnyH_take (i := 6) (v := ?vv6) (by simp only [List.getElem?_toArray, List.getElem?_cons_zero, List.getElem?_cons_succ]; rfl) (by kernel_rfl) (by kernel_rfl) (by kernel_rfl) (fun _ _ _ h => h) (Or.inl ⟨by rfl, ?yy6⟩) (by assumption) ?rr6
    case yy6 => (intro w hSw; go_simp; first | done | with_reducible rfl)
    simp only [Act.put, List.setIfInBounds_toArray, List.set_cons_zero, List.set_cons_succ]
    refine wpAnyH_take (i := 7) (v := ?vv7) (by simp only [List.getElem?_toArray, List.getElem?_cons_zero, List.getElem?_cons_succ]; rfl) (by kernel_rfl) (by kernel_rfl) (by kernel_rfl) (fun _ _ _ h => h) (Or.inl ⟨by rfl, ?yy7⟩) (by assumption) ?rr7
    case yy7 => (intro w hSw; go_simp; first | done | with_reducible rfl)
    simp only [Act.put, List.setIfInBounds_toArray, List.set_cons_zero, List.set_cons_succ]
    refine wpAnyH_ready (rs := [4]) (by kernel_rfl) (by simp) ?_
    refine AllReadyH.cons (by simp only [List.getElem?_toArray, List.getElem?_cons_zero, List.getElem?_cons_succ]; rfl) (fun K hK => ?_) AllReadyH.nil
    go_simp
    go_at_call 39
    (with_reducible refine (join10 Ap Aq kp kq np nq (partN 0 ys) (partN a ys) _ Rp.out Rq.out Mp.out Mq.out (by have q := Mp.out; rw [part_len] at q; have := H5.out; omega)).mono ?_)
    rintro e w6 ⟨Ae, ke, ne, rfl, h1, h2, hb, h4, h5⟩
    have Me := Lib.hid h1; have Re := Lib.hid h2
    clear h1 h2 h4 h5
    have B6 := Lib.hid (chain B5.out hb)
    replace RX := Lib.hid (RX.out.below hb)
    replace RY := Lib.hid (RY.out.below hb)
    replace Ra := Lib.hid (Ra.out.below hb)
    replace Rb := Lib.hid (Rb.out.below hb)
    replace Rp := Lib.hid (Rp.out.below hb)
    replace Rq := Lib.hid (Rq.out.below hb)
    clear hb B5
    go_wp2_with fail
    refine hK.out _ _ trivial (fun hHeld => ?_)
    clear hK K
    try simp only [Act.put, List.setIfInBounds_toArray, List.set_cons_zero, List.set_cons_succ]
    refine wpAnyH_ready (rs := [8]) (by kernel_rfl) (by simp) ?_
    refine AllReadyH.cons (by simp only [List.getElem?_toArray, List.getElem?_cons_zero, List.getElem?_cons_succ]; rfl) (fun K hK => ?_) AllReadyH.nil
    go_simp
    go_at_call 15
    (with_reducible refine (ssame Ae Y ke cY ne n (addR (partN 0 ys) (partN a ys)) (ys) _ Re.out RY.out Me.out LY.out (by have q := Me.out; rw [known_join HW.out] at q; have := H5.out; omega) (known_join HW.out ys)).mono ?_)
    rintro e w7 ⟨rfl, hb⟩
    have B7 := Lib.hid (chain B6.out hb)
    replace RX := Lib.hid (RX.out.below hb)
    replace RY := Lib.hid (RY.out.below hb)
    replace Ra := Lib.hid (Ra.out.below hb)
    replace Rb := Lib.hid (Rb.out.below hb)
    replace Rp := Lib.hid (Rp.out.below hb)
    replace Rq := Lib.hid (Rq.out.below hb)
    replace Re := Lib.hid (Re.out.below hb)
    clear hb B6
    go_wp2_with fail
    refine hK.out _ _ trivial (fun hHeld => ?_)
    clear hK K
    try simp only [Act.put, List.setIfInBounds_toArray, List.set_cons_zero, List.set_cons_succ]
    refine wpAnyH_take (i := 9) (v := ?vv8) (by simp only [List.getElem?_toArray, List.getElem?_cons_zero, List.getElem?_cons_succ]; rfl) (by kernel_rfl) (by kernel_rfl) (by kernel_rfl) (fun _ _ _ h => h) (Or.inl ⟨by rfl, ?yy8⟩) (by assumption) ?rr8
    case yy8 => (intro w hSw; go_simp; first | done | with_reducible rfl)
    simp only [Act.put, List.setIfInBounds_toArray, List.set_cons_zero, List.set_cons_succ]
    refine wpAnyH_take (i := 10) (v := ?vv9) (by simp only [List.getElem?_toArray, List.getElem?_cons_zero, List.getElem?_cons_succ]; rfl) (by kernel_rfl) (by kernel_rfl) (by kernel_rfl) (fun _ _ _ h => h) (Or.inl ⟨by rfl, ?yy9⟩) (by assumption) ?rr9
    case yy9 => (intro w hSw; go_simp; first | done | with_reducible rfl)
    simp only [Act.put, List.setIfInBounds_toArray, List.set_cons_zero, List.set_cons_succ]
    refine wpAnyH_take (i := 11) (v := ?vv10) (by simp only [List.getElem?_toArray, List.getElem?_cons_zero, List.getElem?_cons_succ]; rfl) (by kernel_rfl) (by kernel_rfl) (by kernel_rfl) (fun _ _ _ h => h) (Or.inl ⟨by rfl, ?yy10⟩) (by assumption) ?rr10
    case yy10 => (intro w hSw; go_simp; first | done | with_reducible rfl)
    simp only [Act.put, List.setIfInBounds_toArray, List.set_cons_zero, List.set_cons_succ]
    refine wpAnyH_take (i := 12) (v := ?vv11) (by simp only [List.getElem?_toArray, List.getElem?_cons_zero, List.getElem?_cons_succ]; rfl) (by kernel_rfl) (by kernel_rfl) (by kernel_rfl) (fun _ _ _ h => h) (Or.inl ⟨by rfl, ?yy11⟩) (by assumption) ?rr11
    case yy11 => (intro w hSw; go_simp; first | done | with_reducible rfl)
    simp only [Act.put, List.setIfInBounds_toArray, List.set_cons_zero, List.set_cons_succ]
    refine wpAnyH_take (i := 14) (v := ?vv12) (by simp only [List.getElem?_toArray, List.getElem?_cons_zero, List.getElem?_cons_succ]; rfl) (by kernel_rfl) (by kernel_rfl) (by kernel_rfl) (fun _ _ _ h => h) (Or.inl ⟨by rfl, ?yy12⟩) (by assumption) ?rr12
    case yy12 => (intro w hSw; go_simp; first | done | with_reducible rfl)
    simp only [Act.put, List.setIfInBounds_toArray, List.set_cons_zero, List.set_cons_succ]
    refine wpAnyH_take (i := 15) (v := ?vv13) (by simp only [List.getElem?_toArray, List.getElem?_cons_zero, List.getElem?_cons_succ]; rfl) (by kernel_rfl) (by kernel_rfl) (by kernel_rfl) (fun _ _ _ h => h) (Or.inl ⟨by rfl, ?yy13⟩) (by assumption) ?rr13
    case yy13 => (intro w hSw; go_simp; first | done | with_reducible rfl)
    simp only [Act.put, List.setIfInBounds_toArray, List.set_cons_zero, List.set_cons_succ]
    refine wpAnyH_take (i := 18) (v := ?vv14) (by simp only [List.getElem?_toArray, List.getElem?_cons_zero, List.getElem?_cons_succ]; rfl) (by kernel_rfl) (by kernel_rfl) (by kernel_rfl) (fun _ _ _ h => h) (Or.inl ⟨by rfl, ?yy14⟩) (by assumption) ?rr14
    case yy14 => (intro w hSw; go_simp; first | done | with_reducible rfl)
    simp only [Act.put, List.setIfInBounds_toArray, List.set_cons_zero, List.set_cons_succ]
    refine wpAnyH_take (i := 19) (v := ?vv15) (by simp only [List.getElem?_toArray, List.getElem?_cons_zero, List.getElem?_cons_succ]; rfl) (by kernel_rfl) (by kernel_rfl) (by kernel_rfl) (fun _ _ _ h => h) (Or.inl ⟨by rfl, ?yy15⟩) (by assumption) ?rr15
    case yy15 => (intro w hSw; go_simp; first | done | with_reducible rfl)
    simp only [Act.put, List.setIfInBounds_toArray, List.set_cons_zero, List.set_cons_succ]
    refine wpAnyH_take (i := 21) (v := ?vv16) (by simp only [List.getElem?_toArray, List.getElem?_cons_zero, List.getElem?_cons_succ]; rfl) (by kernel_rfl) (by kernel_rfl) (by kernel_rfl) (fun _ _ _ h => h) (Or.inl ⟨by rfl, ?yy16⟩) (by assumption) ?rr16
    case yy16 => (intro w hSw; go_simp; first | done | with_reducible rfl)
    simp only [Act.put, List.setIfInBounds_toArray, List.set_cons_zero, List.set_cons_succ]
    refine wpAnyH_take (i := 22) (v := ?vv17) (by simp only [List.getElem?_toArray, List.getElem?_cons_zero, List.getElem?_cons_succ]; rfl) (by kernel_rfl) (by kernel_rfl) (by kernel_rfl) (fun _ _ _ h => h) (Or.inl ⟨by rfl, ?yy17⟩) (by assumption) ?rr17
    case yy17 => (intro w hSw; go_simp; first | done | with_reducible rfl)
    simp only [Act.put, List.setIfInBounds_toArray, List.set_cons_zero, List.set_cons_succ]
    refine wpAnyH_take (i := 20) (v := ?vv18) (by simp only [List.getElem?_toArray, List.getElem?_cons_zero, List.getElem?_cons_succ]; rfl) (by kernel_rfl) (by kernel_rfl) (by kernel_rfl) (fun _ _ _ h => h) (Or.inl ⟨by rfl, ?yy18⟩) (by assumption) ?rr18
    case yy18 => (intro w hSw; go_simp; first | done | with_reducible rfl)
    simp only [Act.put, List.setIfInBounds_toArray, List.set_cons_zero, List.set_cons_succ]
    refine wpAnyH_take (i := 23) (v := ?vv19) (by simp only [List.getElem?_toArray, List.getElem?_cons_zero, List.getElem?_cons_succ]; rfl) (by kernel_rfl) (by kernel_rfl) (by kernel_rfl) (fun _ _ _ h => h) (Or.inl ⟨by rfl, ?yy19⟩) (by assumption) ?rr19
    case yy19 => (intro w hSw; go_simp; first | done | with_reducible rfl)
    simp only [Act.put, List.setIfInBounds_toArray, List.set_cons_zero, List.set_cons_succ]
    refine wpAnyH_ready (rs := [13]) (by kernel_rfl) (by simp) ?_
    refine AllReadyH.cons (by simp only [List.getElem?_toArray, List.getElem?_cons_zero, List.getElem?_cons_succ]; rfl) (fun K hK => ?_) AllReadyH.nil
    go_simp
    go_at_call 17
    (with_reducible refine (nadd Aa Ap ka kp na np (splA s xs) (partN 0 ys) _ Ra.out Rp.out Ma.out Mp.out (by have q := Ma.out; rw [splA_len H4.out] at q; have := H4.out; omega)).mono ?_)
    rintro e w8 ⟨Af, kf, nf, rfl, h1, h2, hb, h4, h5, h6⟩
    have Mf := Lib.hid h1; have Rf := Lib.hid h2
    clear h1 h2 h4 h5 h6
    have B8 := Lib.hid (chain B7.out hb)
    replace RX := Lib.hid (RX.out.below hb)
    replace RY := Lib.hid (RY.out.below hb)
    replace Ra := Lib.hid (Ra.out.below hb)
    replace Rb := Lib.hid (Rb.out.below hb)
    replace Rp := Lib.hid (Rp.out.below hb)
    replace Rq := Lib.hid (Rq.out.below hb)
    replace Re := Lib.hid (Re.out.below hb)
    clear hb B7
    go_wp2_with fail
    refine hK.out _ _ trivial (fun hHeld => ?_)
    clear hK K
    try simp only [Act.put, List.setIfInBounds_toArray, List.set_cons_zero, List.set_cons_succ]
    refine wpAnyH_ready (rs := [16]) (by kernel_rfl) (by simp) ?_
    refine AllReadyH.cons (by simp only [List.getElem?_toArray, List.getElem?_cons_zero, List.getElem?_cons_succ]; rfl) (fun K hK => ?_) AllReadyH.nil
    go_simp
    go_at_call 17
    (with_reducible refine (nadd Ab Aq kb kq nb nq (splB s xs) (partN a ys) _ Rb.out Rq.out Mb.out Mq.out (by have q := Mb.out; rw [splB_len H4.out] at q; have := H4.out; omega)).mono ?_)
    rintro e w9 ⟨Ag, kg, ng, rfl, h1, h2, hb, h4, h5, h6⟩
    have Mg := Lib.hid h1; have Rg := Lib.hid h2
    clear h1 h2 h4 h5 h6
    have B9 := Lib.hid (chain B8.out hb)
    replace RX := Lib.hid (RX.out.below hb)
    replace RY := Lib.hid (RY.out.below hb)
    replace Ra := Lib.hid (Ra.out.below hb)
    replace Rb := Lib.hid (Rb.out.below hb)
    replace Rp := Lib.hid (Rp.out.below hb)
    replace Rq := Lib.hid (Rq.out.below hb)
    replace Re := Lib.hid (Re.out.below hb)
    replace Rf := Lib.hid (Rf.out.below hb)
    clear hb B8
    go_wp2_with fail
    refine hK.out _ _ trivial (fun hHeld => ?_)
    clear hK K
    try simp only [Act.put, List.setIfInBounds_toArray, List.set_cons_zero, List.set_cons_succ]
    refine wpAnyH_ready (rs := [17]) (by kernel_rfl) (by simp) ?_
    refine AllReadyH.cons (by simp only [List.getElem?_toArray, List.getElem?_cons_zero, List.getElem?_cons_succ]; rfl) (fun K hK => ?_) AllReadyH.nil
    go_simp
    go_at_call 39
    (with_reducible refine (join10 Af Ag kf kg nf ng (addR (splA s xs) (partN 0 ys)) (addR (splB s xs) (partN a ys)) _ Rf.out Rg.out Mf.out Mg.out (by have q := Mf.out; have q2 := splA_len (s := s) H4.out; simp only [addR, List.length_zipWith] at q; have := H4.out; omega)).mono ?_)
    rintro e w10 ⟨Ah, kh, nh, rfl, h1, h2, hb, h4, h5⟩
    have Mh := Lib.hid h1; have Rh := Lib.hid h2
    clear h1 h2 h4 h5
    have B10 := Lib.hid (chain B9.out hb)
    replace RX := Lib.hid (RX.out.below hb)
    replace RY := Lib.hid (RY.out.below hb)
    replace Ra := Lib.hid (Ra.out.below hb)
    replace Rb := Lib.hid (Rb.out.below hb)
    replace Rp := Lib.hid (Rp.out.below hb)
    replace Rq := Lib.hid (Rq.out.below hb)
    replace Re := Lib.hid (Re.out.below hb)
    replace Rf := Lib.hid (Rf.out.below hb)
    replace Rg := Lib.hid (Rg.out.below hb)
    clear hb B9
    go_wp2_with fail
    refine hK.out _ _ trivial (fun hHeld => ?_)
    clear hK K
    try simp only [Act.put, List.setIfInBounds_toArray, List.set_cons_zero, List.set_cons_succ]
    refine wpAnyH_ready (rs := [24]) (by kernel_rfl) (by simp) ?_
    refine AllReadyH.cons (by simp only [List.getElem?_toArray, List.getElem?_cons_zero, List.getElem?_cons_succ]; rfl) (fun K hK => ?_) AllReadyH.nil
    go_simp
    go_at_call 17
    (with_reducible refine (nadd X Y cX cY n n (xs) (ys) _ RX.out RY.out LX.out LY.out (by omega)).mono ?_)
    rintro e w11 ⟨Ai, ki, ni, rfl, h1, h2, hb, h4, h5, h6⟩
    have Mi := Lib.hid h1; have Ri := Lib.hid h2
    clear h1 h2 h4 h5 h6
    have B11 := Lib.hid (chain B10.out hb)
    replace RX := Lib.hid (RX.out.below hb)
    replace RY := Lib.hid (RY.out.below hb)
    replace Ra := Lib.hid (Ra.out.below hb)
    replace Rb := Lib.hid (Rb.out.below hb)
    replace Rp := Lib.hid (Rp.out.below hb)
    replace Rq := Lib.hid (Rq.out.below hb)
    replace Re := Lib.hid (Re.out.below hb)
    replace Rf := Lib.hid (Rf.out.below hb)
    replace Rg := Lib.hid (Rg.out.below hb)
    replace Rh := Lib.hid (Rh.out.below hb)
    clear hb B10
    go_wp2_with fail
    refine hK.out _ _ trivial (fun hHeld => ?_)
    clear hK K
    try simp only [Act.put, List.setIfInBounds_toArray, List.set_cons_zero, List.set_cons_succ]
    refine wpAnyH_ready (rs := [25]) (by kernel_rfl) (by simp) ?_
    refine AllReadyH.cons (by simp only [List.getElem?_toArray, List.getElem?_cons_zero, List.getElem?_cons_succ]; rfl) (fun K hK => ?_) AllReadyH.nil
    go_simp
    go_at_call 15
    (with_reducible refine (ssame Ah Ai kh ki nh ni (addR (addR (splA s xs) (partN 0 ys)) (addR (splB s xs) (partN a ys))) (addR xs ys) _ Rh.out Ri.out Mh.out Mi.out (by have q := Mh.out; rw [known_add HW.out H4.out EL.out] at q; simp only [addR, List.length_zipWith] at q; have := H4.out; omega) (known_add HW.out H4.out EL.out)).mono ?_)
    rintro e w12 ⟨rfl, hb⟩
    have B12 := Lib.hid (chain B11.out hb)
    replace RX := Lib.hid (RX.out.below hb)
    replace RY := Lib.hid (RY.out.below hb)
    replace Ra := Lib.hid (Ra.out.below hb)
    replace Rb := Lib.hid (Rb.out.below hb)
    replace Rp := Lib.hid (Rp.out.below hb)
    replace Rq := Lib.hid (Rq.out.below hb)
    replace Re := Lib.hid (Re.out.below hb)
    replace Rf := Lib.hid (Rf.out.below hb)
    replace Rg := Lib.hid (Rg.out.below hb)
    replace Rh := Lib.hid (Rh.out.below hb)
    replace Ri := Lib.hid (Ri.out.below hb)
    clear hb B11
    go_wp2_with fail
    refine hK.out _ _ trivial (fun hHeld => ?_)
    clear hK K
    try simp only [Act.put, List.setIfInBounds_toArray, List.set_cons_zero, List.set_cons_succ]
    refine wpAnyH_take (i := 26) (v := ?vv20) (by simp only [List.getElem?_toArray, List.getElem?_cons_zero, List.getElem?_cons_succ]; rfl) (by kernel_rfl) (by kernel_rfl) (by kernel_rfl) (fun _ _ _ h => h) (Or.inl ⟨by rfl, ?yy20⟩) (by assumption) ?rr20
    case yy20 => (intro w hSw; go_simp; first | done | with_reducible rfl)
    simp only [Act.put, List.setIfInBounds_toArray, List.set_cons_zero, List.set_cons_succ]
    refine wpAnyH_take (i := 27) (v := ?vv21) (by simp only [List.getElem?_toArray, List.getElem?_cons_zero, List.getElem?_cons_succ]; rfl) (by kernel_rfl) (by kernel_rfl) (by kernel_rfl) (fun _ _ _ h => h) (Or.inl ⟨by rfl, ?yy21⟩) (by assumption) ?rr21
    case yy21 => (intro w hSw; go_simp; first | done | with_reducible rfl)
    simp only [Act.put, List.setIfInBounds_toArray, List.set_cons_zero, List.set_cons_succ]
    refine wpAnyH_take (i := 28) (v := ?vv22) (by simp only [List.getElem?_toArray, List.getElem?_cons_zero, List.getElem?_cons_succ]; rfl) (by kernel_rfl) (by kernel_rfl) (by kernel_rfl) (fun _ _ _ h => h) (Or.inl ⟨by rfl, ?yy22⟩) (by assumption) ?rr22
    case yy22 => (intro w hSw; go_simp; first | done | with_reducible rfl)
    simp only [Act.put, List.setIfInBounds_toArray, List.set_cons_zero, List.set_cons_succ]
    refine wpAnyH_take (i := 29) (v := ?vv23) (by simp only [List.getElem?_toArray, List.getElem?_cons_zero, List.getElem?_cons_succ]; rfl) (by kernel_rfl) (by kernel_rfl) (by kernel_rfl) (fun _ _ _ h => h) (Or.inl ⟨by rfl, ?yy23⟩) (by assumption) ?rr23
    case yy23 => (intro w hSw; go_simp; first | done | with_reducible rfl)
    simp only [Act.put, List.setIfInBounds_toArray, List.set_cons_zero, List.set_cons_succ]
    refine wpAnyH_take (i := 30) (v := ?vv24) (by simp only [List.getElem?_toArray, List.getElem?_cons_zero, List.getElem?_cons_succ]; rfl) (by kernel_rfl) (by kernel_rfl) (by kernel_rfl) (fun _ _ _ h => h) (Or.inl ⟨by rfl, ?yy24⟩) (by assumption) ?rr24
    case yy24 => (intro w hSw; go_simp; first | done | with_reducible rfl)
    simp only [Act.put, List.setIfInBounds_toArray, List.set_cons_zero, List.set_cons_succ]
    refine wpAnyH_take (i := 31) (v := ?vv25) (by simp only [List.getElem?_toArray, List.getElem?_cons_zero, List.getElem?_cons_succ]; rfl) (by kernel_rfl) (by kernel_rfl) (by kernel_rfl) (fun _ _ _ h => h) (Or.inl ⟨by rfl, ?yy25⟩) (by assumption) ?rr25
    case yy25 => (intro w hSw; go_simp; first | done | with_reducible rfl)
    simp only [Act.put, List.setIfInBounds_toArray, List.set_cons_zero, List.set_cons_succ]
    refine wpAnyH_ready (rs := [32]) (by kernel_rfl) (by simp) ?_
    refine AllReadyH.cons (by simp only [List.getElem?_toArray, List.getElem?_cons_zero, List.getElem?_cons_succ]; rfl) (fun K hK => ?_) AllReadyH.nil
    go_simp
    go_at_call 15
    (with_reducible refine (ssame Ap Y kp cY np n (partN 0 ys) (ys) _ Rp.out RY.out Mp.out LY.out (by have q := Mp.out; rw [part_len] at q; have := H5.out; omega) (part_yes ys)).mono ?_)
    rintro e w13 ⟨rfl, hb⟩
    have B13 := Lib.hid (chain B12.out hb)
    replace RX := Lib.hid (RX.out.below hb)
    replace RY := Lib.hid (RY.out.below hb)
    replace Ra := Lib.hid (Ra.out.below hb)
    replace Rb := Lib.hid (Rb.out.below hb)
    replace Rp := Lib.hid (Rp.out.below hb)
    replace Rq := Lib.hid (Rq.out.below hb)
    replace Re := Lib.hid (Re.out.below hb)
    replace Rf := Lib.hid (Rf.out.below hb)
    replace Rg := Lib.hid (Rg.out.below hb)
    replace Rh := Lib.hid (Rh.out.below hb)
    replace Ri := Lib.hid (Ri.out.below hb)
    clear hb B12
    go_wp2_with fail
    refine hK.out _ _ trivial (fun hHeld => ?_)
    clear hK K
    try simp only [Act.put, List.setIfInBounds_toArray, List.set_cons_zero, List.set_cons_succ]
    refine wpAnyH_take (i := 33) (v := ?vv26) (by simp only [List.getElem?_toArray, List.getElem?_cons_zero, List.getElem?_cons_succ]; rfl) (by kernel_rfl) (by kernel_rfl) (by kernel_rfl) (fun _ _ _ h => h) (Or.inl ⟨by rfl, ?yy26⟩) (by assumption) ?rr26
    case yy26 => (intro w hSw; go_simp; first | done | with_reducible rfl)
    simp only [Act.put, List.setIfInBounds_toArray, List.set_cons_zero, List.set_cons_succ]
    refine wpAnyH_take (i := 34) (v := ?vv27) (by simp only [List.getElem?_toArray, List.getElem?_cons_zero, List.getElem?_cons_succ]; rfl) (by kernel_rfl) (by kernel_rfl) (by kernel_rfl) (fun _ _ _ h => h) (Or.inl ⟨by rfl, ?yy27⟩) (by assumption) ?rr27
    case yy27 => (intro w hSw; go_simp; first | done | with_reducible rfl)
    simp only [Act.put, List.setIfInBounds_toArray, List.set_cons_zero, List.set_cons_succ]
    refine wpAnyH_done (by kernel_rfl) ?_ _
    refine NoPanic.normal ?_
    go_wp2_with fail
    go_ret
    exact ⟨rfl, B13.out⟩
  · subst h1
    by_cases hg : 4096 < n
    · have d1 : decide (4096 < (n : Int)) = true := decide_eq_true (by omega)
      clear hg
      go_enter Try.func10, Try.ntmps10
      go_wp2_with fail
      refine (head10_any _).mono ?_
      rintro e w1 ⟨rfl, hb⟩
      have B1 := Lib.hid hb
      replace RX := Lib.hid (RX.out.below hb)
      replace RY := Lib.hid (RY.out.below hb)
      clear hb
      go_wp2_with fail
      go_ret
      exact ⟨rfl, B1.out⟩
    have d1 : decide (4096 < (n : Int)) = false := decide_eq_false (by omega)
    have n4 : n ≤ 4096 := by omega
    have H4 : Hid (xs.length ≤ 4096) := by show _ ≤ _; have := LX.out; omega
    have EL : Hid (xs.length = ys.length) := by show _ = _; rw [← LX.out, LY.out]
    have H5 : Hid (ys.length ≤ 4096) := by show _ ≤ _; have := LY.out; omega
    have kx : (n : Int) ≤ (cX : Int) := by omega
    have ky : (n : Int) ≤ (cY : Int) := by omega
    have kxn : n ≤ cX := by omega
    have kyn : n ≤ cY := by omega
    have kz : (0 : Int) ≤ (n : Int) := by omega
    clear hg
    by_cases hw : a = 0
    · have d2 : (a == 0) = true := by simp [hw]
      clear hw
      go_enter Try.func10, Try.ntmps10
      go_wp2_with fail
      refine (head10_any _).mono ?_
      rintro e w1 ⟨rfl, hb⟩
      have B1 := Lib.hid hb
      replace RX := Lib.hid (RX.out.below hb)
      replace RY := Lib.hid (RY.out.below hb)
      clear hb
      go_wp2_with fail
      go_ret
      exact ⟨rfl, B1.out⟩
    have d2 : (a == 0) = false := by simp [hw]
    have HW : Hid (a ≠ 0) := hw
    clear hw
    go_enter Try.func10, Try.ntmps10
    go_wp2_with fail
    refine (head10_any _).mono ?_
    rintro e w1 ⟨rfl, hb⟩
    have B1 := Lib.hid hb
    replace RX := Lib.hid (RX.out.below hb)
    replace RY := Lib.hid (RY.out.below hb)
    clear hb
    go_wp2_with fail
    refine (split10 s X cX n (xs) _ RX.out LX.out (by omega)).mono ?_
    rintro e w2 ⟨Aa, ka, na, Ab, kb, nb, rfl, h1, h2, h3, h4, hb, h5, h6, h7, h8⟩
    have Ma := Lib.hid h1; have Ra := Lib.hid h2; have Mb := Lib.hid h3; have Rb := Lib.hid h4
    clear h1 h2 h3 h4 h5 h6 h7 h8
    have B2 := Lib.hid (chain B1.out hb)
    replace RX := Lib.hid (RX.out.below hb)
    replace RY := Lib.hid (RY.out.below hb)
    clear hb B1
    go_wp2_with fail
    refine (part10 0 Y cY n (ys) _ RY.out LY.out (by omega)).mono ?_
    rintro e w3 ⟨Ap, kp, np, rfl, h1, h2, hb, h4, h5⟩
    have Mp := Lib.hid h1; have Rp := Lib.hid h2
    clear h1 h2 h4 h5
    have B3 := Lib.hid (chain B2.out hb)
    replace RX := Lib.hid (RX.out.below hb)
    replace RY := Lib.hid (RY.out.below hb)
    replace Ra := Lib.hid (Ra.out.below hb)
    replace Rb := Lib.hid (Rb.out.below hb)
    clear hb B2
    go_wp2_with fail
    refine (part10 a Y cY n (ys) _ RY.out LY.out (by omega)).mono ?_
    rintro e w4 ⟨Aq, kq, nq, rfl, h1, h2, hb, h4, h5⟩
    have Mq := Lib.hid h1; have Rq := Lib.hid h2
    clear h1 h2 h4 h5
    have B4 := Lib.hid (chain B3.out hb)
    replace RX := Lib.hid (RX.out.below hb)
    replace RY := Lib.hid (RY.out.below hb)
    replace Ra := Lib.hid (Ra.out.below hb)
    replace Rb := Lib.hid (Rb.out.below hb)
    replace Rp := Lib.hid (Rp.out.below hb)
    clear hb B3
    go_wp2_with fail
    refine wp_region_noPanic ?_
    refine wp_region_held_drew (S := fun _ => True) (by kernel_rfl) (by trivial) (fun hHeld => ?_)
    have hb := below_drew w4
    have B5 := Lib.hid (chain B4.out hb)
    replace RX := Lib.hid (RX.out.below hb)
    replace RY := Lib.hid (RY.out.below hb)
    replace Ra := Lib.hid (Ra.out.below hb)
    replace Rb := Lib.hid (Rb.out.below hb)
    replace Rp := Lib.hid (Rp.out.below hb)
    replace Rq := Lib.hid (Rq.out.below hb)
    clear hb B4
    refine wpAnyH_take (i := 0) (v := ?vv28) (by simp only [List.getElem?_toArray, List.getElem?_cons_zero]; rfl) (by kernel_rfl) (by kernel_rfl) (by kernel_rfl) (fun _ _ _ h => h) (Or.inl ⟨by rfl, ?yy28⟩) (by assumption) ?rr28
    case yy28 => (intro w hSw; go_simp; first | done | with_reducible rfl)
    simp only [Act.put, List.setIfInBounds_toArray, List.set_cons_zero, List.set_cons_succ]
    refine wpAnyH_take (i := 1) (v := ?vv29) (by simp only [List.getElem?_toArray, List.getElem?_cons_zero, List.getElem?_cons_succ]; rfl) (by kernel_rfl) (by kernel_rfl) (by kernel_rfl) (fun _ _ _ h => h) (Or.inl ⟨by rfl, ?yy29⟩) (by assumption) ?rr29
    case yy29 => (intro w hSw; go_simp; first | done | with_reducible rfl)
    simp only [Act.put, List.setIfInBounds_toArray, List.set_cons_zero, List.set_cons_succ]
    refine wpAnyH_take (i := 2) (v := ?vv30) (by simp only [List.getElem?_toArray, List.getElem?_cons_zero, List.getElem?_cons_succ]; rfl) (by kernel_rfl) (by kernel_rfl) (by kernel_rfl) (fun _ _ _ h => h) (Or.inl ⟨by rfl, ?yy30⟩) (by assumption) ?rr30
    case yy30 => (intro w hSw; go_simp; first | done | with_reducible rfl)
    simp only [Act.put, List.setIfInBounds_toArray, List.set_cons_zero, List.set_cons_succ]
    refine wpAnyH_take (i := 3) (v := ?vv31) (by simp only [List.getElem?_toArray, List.getElem?_cons_zero, List.getElem?_cons_succ]; rfl) (by kernel_rfl) (by kernel_rfl) (by kernel_rfl) (fun _ _ _ h => h) (Or.inl ⟨by rfl, ?yy31⟩) (by assumption) ?rr31
    case yy31 => (intro w hSw; go_simp; first | done | with_reducible rfl)
    simp only [Act.put, List.setIfInBounds_toArray, List.set_cons_zero, List.set_cons_succ]
    refine wpAnyH_take (i := 5) (v := ?vv32) (by simp only [List.getElem?_toArray, List.getElem?_cons_zero, List.getElem?_cons_succ]; rfl) (by kernel_rfl) (by kernel_rfl) (by kernel_rfl) (fun _ _ _ h => h) (Or.inl ⟨by rfl, ?yy32⟩) (by assumption) ?rr32
    case yy32 => (intro w hSw; go_simp; first | done | with_reducible rfl)
    simp only [Act.put, List.setIfInBounds_toArray, List.set_cons_zero, List.set_cons_succ]
    refine wpAnyH_take (i := 6) (v := ?vv33) (by simp only [List.getElem?_toArray, List.getElem?_cons_zero, List.getElem?_cons_succ]; rfl) (by kernel_rfl) (by kernel_rfl) (by kernel_rfl) (fun _ _ _ h => h) (Or.inl ⟨by rfl, ?yy33⟩) (by assumption) ?rr33
    case yy33 => (intro w hSw; go_simp; first | done | with_reducible rfl)
    simp only [Act.put, List.setIfInBounds_toArray, List.set_cons_zero, List.set_cons_succ]
    refine wpAnyH_take (i := 7) (v := ?vv34) (by simp only [List.getElem?_toArray, List.getElem?_cons_zero, List.getElem?_cons_succ]; rfl) (by kernel_rfl) (by kernel_rfl) (by kernel_rfl) (fun _ _ _ h => h) (Or.inl ⟨by rfl, ?yy34⟩) (by assumption) ?rr34
    case yy34 => (intro w hSw; go_simp; first | done | with_reducible rfl)
    simp only [Act.put, List.setIfInBounds_toArray, List.set_cons_zero, List.set_cons_succ]
    refine wpAnyH_ready (rs := [4]) (by kernel_rfl) (by simp) ?_
    refine AllReadyH.cons (by simp only [List.getElem?_toArray, List.getElem?_cons_zero, List.getElem?_cons_succ]; rfl) (fun K hK => ?_) AllReadyH.nil
    go_simp
    go_at_call 39
    (with_reducible refine (join10 Ap Aq kp kq np nq (partN 0 ys) (partN a ys) _ Rp.out Rq.out Mp.out Mq.out (by have q := Mp.out; rw [part_len] at q; have := H5.out; omega)).mono ?_)
    rintro e w6 ⟨Ae, ke, ne, rfl, h1, h2, hb, h4, h5⟩
    have Me := Lib.hid h1; have Re := Lib.hid h2
    clear h1 h2 h4 h5
    have B6 := Lib.hid (chain B5.out hb)
    replace RX := Lib.hid (RX.out.below hb)
    replace RY := Lib.hid (RY.out.below hb)
    replace Ra := Lib.hid (Ra.out.below hb)
    replace Rb := Lib.hid (Rb.out.below hb)
    replace Rp := Lib.hid (Rp.out.below hb)
    replace Rq := Lib.hid (Rq.out.below hb)
    clear hb B5
    go_wp2_with fail
    refine hK.out _ _ trivial (fun hHeld => ?_)
    clear hK K
    try simp only [Act.put, List.setIfInBounds_toArray, List.set_cons_zero, List.set_cons_succ]
    refine wpAnyH_ready (rs := [8]) (by kernel_rfl) (by simp) ?_
    refine AllReadyH.cons (by simp only [List.getElem?_toArray, List.getElem?_cons_zero, List.getElem?_cons_succ]; rfl) (fun K hK => ?_) AllReadyH.nil
    go_simp
    go_at_call 15
    (with_reducible refine (ssame Ae Y ke cY ne n (addR (partN 0 ys) (partN a ys)) (ys) _ Re.out RY.out Me.out LY.out (by have q := Me.out; rw [known_join HW.out] at q; have := H5.out; omega) (known_join HW.out ys)).mono ?_)
    rintro e w7 ⟨rfl, hb⟩
    have B7 := Lib.hid (chain B6.out hb)
    replace RX := Lib.hid (RX.out.below hb)
    replace RY := Lib.hid (RY.out.below hb)
    replace Ra := Lib.hid (Ra.out.below hb)
    replace Rb := Lib.hid (Rb.out.below hb)
    replace Rp := Lib.hid (Rp.out.below hb)
    replace Rq := Lib.hid (Rq.out.below hb)
    replace Re := Lib.hid (Re.out.below hb)
    clear hb B6
    go_wp2_with fail
    refine hK.out _ _ trivial (fun hHeld => ?_)
    clear hK K
    try simp only [Act.put, List.setIfInBounds_toArray, List.set_cons_zero, List.set_cons_succ]
    refine wpAnyH_take (i := 9) (v := ?vv35) (by simp only [List.getElem?_toArray, List.getElem?_cons_zero, List.getElem?_cons_succ]; rfl) (by kernel_rfl) (by kernel_rfl) (by kernel_rfl) (fun _ _ _ h => h) (Or.inl ⟨by rfl, ?yy35⟩) (by assumption) ?rr35
    case yy35 => (intro w hSw; go_simp; first | done | with_reducible rfl)
    simp only [Act.put, List.setIfInBounds_toArray, List.set_cons_zero, List.set_cons_succ]
    refine wpAnyH_take (i := 10) (v := ?vv36) (by simp only [List.getElem?_toArray, List.getElem?_cons_zero, List.getElem?_cons_succ]; rfl) (by kernel_rfl) (by kernel_rfl) (by kernel_rfl) (fun _ _ _ h => h) (Or.inl ⟨by rfl, ?yy36⟩) (by assumption) ?rr36
    case yy36 => (intro w hSw; go_simp; first | done | with_reducible rfl)
    simp only [Act.put, List.setIfInBounds_toArray, List.set_cons_zero, List.set_cons_succ]
    refine wpAnyH_take (i := 11) (v := ?vv37) (by simp only [List.getElem?_toArray, List.getElem?_cons_zero, List.getElem?_cons_succ]; rfl) (by kernel_rfl) (by kernel_rfl) (by kernel_rfl) (fun _ _ _ h => h) (Or.inl ⟨by rfl, ?yy37⟩) (by assumption) ?rr37
    case yy37 => (intro w hSw; go_simp; first | done | with_reducible rfl)
    simp only [Act.put, List.setIfInBounds_toArray, List.set_cons_zero, List.set_cons_succ]
    refine wpAnyH_take (i := 12) (v := ?vv38) (by simp only [List.getElem?_toArray, List.getElem?_cons_zero, List.getElem?_cons_succ]; rfl) (by kernel_rfl) (by kernel_rfl) (by kernel_rfl) (fun _ _ _ h => h) (Or.inl ⟨by rfl, ?yy38⟩) (by assumption) ?rr38
    case yy38 => (intro w hSw; go_simp; first | done | with_reducible rfl)
    simp only [Act.put, List.setIfInBounds_toArray, List.set_cons_zero, List.set_cons_succ]
    refine wpAnyH_take (i := 14) (v := ?vv39) (by simp only [List.getElem?_toArray, List.getElem?_cons_zero, List.getElem?_cons_succ]; rfl) (by kernel_rfl) (by kernel_rfl) (by kernel_rfl) (fun _ _ _ h => h) (Or.inl ⟨by rfl, ?yy39⟩) (by assumption) ?rr39
    case yy39 => (intro w hSw; go_simp; first | done | with_reducible rfl)
    simp only [Act.put, List.setIfInBounds_toArray, List.set_cons_zero, List.set_cons_succ]
    refine wpAnyH_take (i := 15) (v := ?vv40) (by simp only [List.getElem?_toArray, List.getElem?_cons_zero, List.getElem?_cons_succ]; rfl) (by kernel_rfl) (by kernel_rfl) (by kernel_rfl) (fun _ _ _ h => h) (Or.inl ⟨by rfl, ?yy40⟩) (by assumption) ?rr40
    case yy40 => (intro w hSw; go_simp; first | done | with_reducible rfl)
    simp only [Act.put, List.setIfInBounds_toArray, List.set_cons_zero, List.set_cons_succ]
    refine wpAnyH_take (i := 18) (v := ?vv41) (by simp only [List.getElem?_toArray, List.getElem?_cons_zero, List.getElem?_cons_succ]; rfl) (by kernel_rfl) (by kernel_rfl) (by kernel_rfl) (fun _ _ _ h => h) (Or.inl ⟨by rfl, ?yy41⟩) (by assumption) ?rr41
    case yy41 => (intro w hSw; go_simp; first | done | with_reducible rfl)
    simp only [Act.put, List.setIfInBounds_toArray, List.set_cons_zero, List.set_cons_succ]
    refine wpAnyH_take (i := 19) (v := ?vv42) (by simp only [List.getElem?_toArray, List.getElem?_cons_zero, List.getElem?_cons_succ]; rfl) (by kernel_rfl) (by kernel_rfl) (by kernel_rfl) (fun _ _ _ h => h) (Or.inl ⟨by rfl, ?yy42⟩) (by assumption) ?rr42
    case yy42 => (intro w hSw; go_simp; first | done | with_reducible rfl)
    simp only [Act.put, List.setIfInBounds_toArray, List.set_cons_zero, List.set_cons_succ]
    refine wpAnyH_take (i := 21) (v := ?vv43) (by simp only [List.getElem?_toArray, List.getElem?_cons_zero, List.getElem?_cons_succ]; rfl) (by kernel_rfl) (by kernel_rfl) (by kernel_rfl) (fun _ _ _ h => h) (Or.inl ⟨by rfl, ?yy43⟩) (by assumption) ?rr43
    case yy43 => (intro w hSw; go_simp; first | done | with_reducible rfl)
    simp only [Act.put, List.setIfInBounds_toArray, List.set_cons_zero, List.set_cons_succ]
    refine wpAnyH_take (i := 22) (v := ?vv44) (by simp only [List.getElem?_toArray, List.getElem?_cons_zero, List.getElem?_cons_succ]; rfl) (by kernel_rfl) (by kernel_rfl) (by kernel_rfl) (fun _ _ _ h => h) (Or.inl ⟨by rfl, ?yy44⟩) (by assumption) ?rr44
    case yy44 => (intro w hSw; go_simp; first | done | with_reducible rfl)
    simp only [Act.put, List.setIfInBounds_toArray, List.set_cons_zero, List.set_cons_succ]
    refine wpAnyH_take (i := 20) (v := ?vv45) (by simp only [List.getElem?_toArray, List.getElem?_cons_zero, List.getElem?_cons_succ]; rfl) (by kernel_rfl) (by kernel_rfl) (by kernel_rfl) (fun _ _ _ h => h) (Or.inl ⟨by rfl, ?yy45⟩) (by assumption) ?rr45
    case yy45 => (intro w hSw; go_simp; first | done | with_reducible rfl)
    simp only [Act.put, List.setIfInBounds_toArray, List.set_cons_zero, List.set_cons_succ]
    refine wpAnyH_take (i := 23) (v := ?vv46) (by simp only [List.getElem?_toArray, List.getElem?_cons_zero, List.getElem?_cons_succ]; rfl) (by kernel_rfl) (by kernel_rfl) (by kernel_rfl) (fun _ _ _ h => h) (Or.inl ⟨by rfl, ?yy46⟩) (by assumption) ?rr46
    case yy46 => (intro w hSw; go_simp; first | done | with_reducible rfl)
    simp only [Act.put, List.setIfInBounds_toArray, List.set_cons_zero, List.set_cons_succ]
    refine wpAnyH_ready (rs := [13]) (by kernel_rfl) (by simp) ?_
    refine AllReadyH.cons (by simp only [List.getElem?_toArray, List.getElem?_cons_zero, List.getElem?_cons_succ]; rfl) (fun K hK => ?_) AllReadyH.nil
    go_simp
    go_at_call 17
    (with_reducible refine (nadd Aa Ap ka kp na np (splA s xs) (partN 0 ys) _ Ra.out Rp.out Ma.out Mp.out (by have q := Ma.out; rw [splA_len H4.out] at q; have := H4.out; omega)).mono ?_)
    rintro e w8 ⟨Af, kf, nf, rfl, h1, h2, hb, h4, h5, h6⟩
    have Mf := Lib.hid h1; have Rf := Lib.hid h2
    clear h1 h2 h4 h5 h6
    have B8 := Lib.hid (chain B7.out hb)
    replace RX := Lib.hid (RX.out.below hb)
    replace RY := Lib.hid (RY.out.below hb)
    replace Ra := Lib.hid (Ra.out.below hb)
    replace Rb := Lib.hid (Rb.out.below hb)
    replace Rp := Lib.hid (Rp.out.below hb)
    replace Rq := Lib.hid (Rq.out.below hb)
    replace Re := Lib.hid (Re.out.below hb)
    clear hb B7
    go_wp2_with fail
    refine hK.out _ _ trivial (fun hHeld => ?_)
    clear hK K
    try simp only [Act.put, List.setIfInBounds_toArray, List.set_cons_zero, List.set_cons_succ]
    refine wpAnyH_ready (rs := [16]) (by kernel_rfl) (by simp) ?_
    refine AllReadyH.cons (by simp only [List.getElem?_toArray, List.getElem?_cons_zero, List.getElem?_cons_succ]; rfl) (fun K hK => ?_) AllReadyH.nil
    go_simp
    go_at_call 17
    (with_reducible refine (nadd Ab Aq kb kq nb nq (splB s xs) (partN a ys) _ Rb.out Rq.out Mb.out Mq.out (by have q := Mb.out; rw [splB_len H4.out] at q; have := H4.out; omega)).mono ?_)
    rintro e w9 ⟨Ag, kg, ng, rfl, h1, h2, hb, h4, h5, h6⟩
    have Mg := Lib.hid h1; have Rg := Lib.hid h2
    clear h1 h2 h4 h5 h6
    have B9 := Lib.hid (chain B8.out hb)
    replace RX := Lib.hid (RX.out.below hb)
    replace RY := Lib.hid (RY.out.below hb)
    replace Ra := Lib.hid (Ra.out.below hb)
    replace Rb := Lib.hid (Rb.out.below hb)
    replace Rp := Lib.hid (Rp.out.below hb)
    replace Rq := Lib.hid (Rq.out.below hb)
    replace Re := Lib.hid (Re.out.below hb)
    replace Rf := Lib.hid (Rf.out.below hb)
    clear hb B8
    go_wp2_with fail
    refine hK.out _ _ trivial (fun hHeld => ?_)
    clear hK K
    try simp only [Act.put, List.setIfInBounds_toArray, List.set_cons_zero, List.set_cons_succ]
    refine wpAnyH_ready (rs := [17]) (by kernel_rfl) (by simp) ?_
    refine AllReadyH.cons (by simp only [List.getElem?_toArray, List.getElem?_cons_zero, List.getElem?_cons_succ]; rfl) (fun K hK => ?_) AllReadyH.nil
    go_simp
    go_at_call 39
    (with_reducible refine (join10 Af Ag kf kg nf ng (addR (splA s xs) (partN 0 ys)) (addR (splB s xs) (partN a ys)) _ Rf.out Rg.out Mf.out Mg.out (by have q := Mf.out; have q2 := splA_len (s := s) H4.out; simp only [addR, List.length_zipWith] at q; have := H4.out; omega)).mono ?_)
    rintro e w10 ⟨Ah, kh, nh, rfl, h1, h2, hb, h4, h5⟩
    have Mh := Lib.hid h1; have Rh := Lib.hid h2
    clear h1 h2 h4 h5
    have B10 := Lib.hid (chain B9.out hb)
    replace RX := Lib.hid (RX.out.below hb)
    replace RY := Lib.hid (RY.out.below hb)
    replace Ra := Lib.hid (Ra.out.below hb)
    replace Rb := Lib.hid (Rb.out.below hb)
    replace Rp := Lib.hid (Rp.out.below hb)
    replace Rq := Lib.hid (Rq.out.below hb)
    replace Re := Lib.hid (Re.out.below hb)
    replace Rf := Lib.hid (Rf.out.below hb)
    replace Rg := Lib.hid (Rg.out.below hb)
    clear hb B9
    go_wp2_with fail
    refine hK.out _ _ trivial (fun hHeld => ?_)
    clear hK K
    try simp only [Act.put, List.setIfInBounds_toArray, List.set_cons_zero, List.set_cons_succ]
    refine wpAnyH_ready (rs := [24]) (by kernel_rfl) (by simp) ?_
    refine AllReadyH.cons (by simp only [List.getElem?_toArray, List.getElem?_cons_zero, List.getElem?_cons_succ]; rfl) (fun K hK => ?_) AllReadyH.nil
    go_simp
    go_at_call 17
    (with_reducible refine (nadd X Y cX cY n n (xs) (ys) _ RX.out RY.out LX.out LY.out (by omega)).mono ?_)
    rintro e w11 ⟨Ai, ki, ni, rfl, h1, h2, hb, h4, h5, h6⟩
    have Mi := Lib.hid h1; have Ri := Lib.hid h2
    clear h1 h2 h4 h5 h6
    have B11 := Lib.hid (chain B10.out hb)
    replace RX := Lib.hid (RX.out.below hb)
    replace RY := Lib.hid (RY.out.below hb)
    replace Ra := Lib.hid (Ra.out.below hb)
    replace Rb := Lib.hid (Rb.out.below hb)
    replace Rp := Lib.hid (Rp.out.below hb)
    replace Rq := Lib.hid (Rq.out.below hb)
    replace Re := Lib.hid (Re.out.below hb)
    replace Rf := Lib.hid (Rf.out.below hb)
    replace Rg := Lib.hid (Rg.out.below hb)
    replace Rh := Lib.hid (Rh.out.below hb)
    clear hb B10
    go_wp2_with fail
    refine hK.out _ _ trivial (fun hHeld => ?_)
    clear hK K
    try simp only [Act.put, List.setIfInBounds_toArray, List.set_cons_zero, List.set_cons_succ]
    refine wpAnyH_ready (rs := [25]) (by kernel_rfl) (by simp) ?_
    refine AllReadyH.cons (by simp only [List.getElem?_toArray, List.getElem?_cons_zero, List.getElem?_cons_succ]; rfl) (fun K hK => ?_) AllReadyH.nil
    go_simp
    go_at_call 15
    (with_reducible refine (ssame Ah Ai kh ki nh ni (addR (addR (splA s xs) (partN 0 ys)) (addR (splB s xs) (partN a ys))) (addR xs ys) _ Rh.out Ri.out Mh.out Mi.out (by have q := Mh.out; rw [known_add HW.out H4.out EL.out] at q; simp only [addR, List.length_zipWith] at q; have := H4.out; omega) (known_add HW.out H4.out EL.out)).mono ?_)
    rintro e w12 ⟨rfl, hb⟩
    have B12 := Lib.hid (chain B11.out hb)
    replace RX := Lib.hid (RX.out.below hb)
    replace RY := Lib.hid (RY.out.below hb)
    replace Ra := Lib.hid (Ra.out.below hb)
    replace Rb := Lib.hid (Rb.out.below hb)
    replace Rp := Lib.hid (Rp.out.below hb)
    replace Rq := Lib.hid (Rq.out.below hb)
    replace Re := Lib.hid (Re.out.below hb)
    replace Rf := Lib.hid (Rf.out.below hb)
    replace Rg := Lib.hid (Rg.out.below hb)
    replace Rh := Lib.hid (Rh.out.below hb)
    replace Ri := Lib.hid (Ri.out.below hb)
    clear hb B11
    go_wp2_with fail
    refine hK.out _ _ trivial (fun hHeld => ?_)
    clear hK K
    try simp only [Act.put, List.setIfInBounds_toArray, List.set_cons_zero, List.set_cons_succ]
    refine wpAnyH_take (i := 26) (v := ?vv47) (by simp only [List.getElem?_toArray, List.getElem?_cons_zero, List.getElem?_cons_succ]; rfl) (by kernel_rfl) (by kernel_rfl) (by kernel_rfl) (fun _ _ _ h => h) (Or.inl ⟨by rfl, ?yy47⟩) (by assumption) ?rr47
    case yy47 => (intro w hSw; go_simp; first | done | with_reducible rfl)
    simp only [Act.put, List.setIfInBounds_toArray, List.set_cons_zero, List.set_cons_succ]
    refine wpAnyH_take (i := 27) (v := ?vv48) (by simp only [List.getElem?_toArray, List.getElem?_cons_zero, List.getElem?_cons_succ]; rfl) (by kernel_rfl) (by kernel_rfl) (by kernel_rfl) (fun _ _ _ h => h) (Or.inl ⟨by rfl, ?yy48⟩) (by assumption) ?rr48
    case yy48 => (intro w hSw; go_simp; first | done | with_reducible rfl)
    simp only [Act.put, List.setIfInBounds_toArray, List.set_cons_zero, List.set_cons_succ]
    refine wpAnyH_take (i := 28) (v := ?vv49) (by simp only [List.getElem?_toArray, List.getElem?_cons_zero, List.getElem?_cons_succ]; rfl) (by kernel_rfl) (by kernel_rfl) (by kernel_rfl) (fun _ _ _ h => h) (Or.inl ⟨by rfl, ?yy49⟩) (by assumption) ?rr49
    case yy49 => (intro w hSw; go_simp; first | done | with_reducible rfl)
    simp only [Act.put, List.setIfInBounds_toArray, List.set_cons_zero, List.set_cons_succ]
    refine wpAnyH_take (i := 29) (v := ?vv50) (by simp only [List.getElem?_toArray, List.getElem?_cons_zero, List.getElem?_cons_succ]; rfl) (by kernel_rfl) (by kernel_rfl) (by kernel_rfl) (fun _ _ _ h => h) (Or.inl ⟨by rfl, ?yy50⟩) (by assumption) ?rr50
    case yy50 => (intro w hSw; go_simp; first | done | with_reducible rfl)
    simp only [Act.put, List.setIfInBounds_toArray, List.set_cons_zero, List.set_cons_succ]
    refine wpAnyH_take (i := 30) (v := ?vv51) (by simp only [List.getElem?_toArray, List.getElem?_cons_zero, List.getElem?_cons_succ]; rfl) (by kernel_rfl) (by kernel_rfl) (by kernel_rfl) (fun _ _ _ h => h) (Or.inl ⟨by rfl, ?yy51⟩) (by assumption) ?rr51
    case yy51 => (intro w hSw; go_simp; first | done | with_reducible rfl)
    simp only [Act.put, List.setIfInBounds_toArray, List.set_cons_zero, List.set_cons_succ]
    refine wpAnyH_take (i := 31) (v := ?vv52) (by simp only [List.getElem?_toArray, List.getElem?_cons_zero, List.getElem?_cons_succ]; rfl) (by kernel_rfl) (by kernel_rfl) (by kernel_rfl) (fun _ _ _ h => h) (Or.inl ⟨by rfl, ?yy52⟩) (by assumption) ?rr52
    case yy52 => (intro w hSw; go_simp; first | done | with_reducible rfl)
    simp only [Act.put, List.setIfInBounds_toArray, List.set_cons_zero, List.set_cons_succ]
    refine wpAnyH_ready (rs := [32]) (by kernel_rfl) (by simp) ?_
    refine AllReadyH.cons (by simp only [List.getElem?_toArray, List.getElem?_cons_zero, List.getElem?_cons_succ]; rfl) (fun K hK => ?_) AllReadyH.nil
    go_simp
    go_at_call 15
    (with_reducible refine (ssame Ap Y kp cY np n (partN 0 ys) (ys) _ Rp.out RY.out Mp.out LY.out (by have q := Mp.out; rw [part_len] at q; have := H5.out; omega) (part_yes ys)).mono ?_)
    rintro e w13 ⟨rfl, hb⟩
    have B13 := Lib.hid (chain B12.out hb)
    replace RX := Lib.hid (RX.out.below hb)
    replace RY := Lib.hid (RY.out.below hb)
    replace Ra := Lib.hid (Ra.out.below hb)
    replace Rb := Lib.hid (Rb.out.below hb)
    replace Rp := Lib.hid (Rp.out.below hb)
    replace Rq := Lib.hid (Rq.out.below hb)
    replace Re := Lib.hid (Re.out.below hb)
    replace Rf := Lib.hid (Rf.out.below hb)
    replace Rg := Lib.hid (Rg.out.below hb)
    replace Rh := Lib.hid (Rh.out.below hb)
    replace Ri := Lib.hid (Ri.out.below hb)
    clear hb B12
    go_wp2_with fail
    refine hK.out _ _ trivial (fun hHeld => ?_)
    clear hK K
    try simp only [Act.put, List.setIfInBounds_toArray, List.set_cons_zero, List.set_cons_succ]
    refine wpAnyH_take (i := 33) (v := ?vv53) (by simp only [List.getElem?_toArray, List.getElem?_cons_zero, List.getElem?_cons_succ]; rfl) (by kernel_rfl) (by kernel_rfl) (by kernel_rfl) (fun _ _ _ h => h) (Or.inl ⟨by rfl, ?yy53⟩) (by assumption) ?rr53
    case yy53 => (intro w hSw; go_simp; first | done | with_reducible rfl)
    simp only [Act.put, List.setIfInBounds_toArray, List.set_cons_zero, List.set_cons_succ]
    refine wpAnyH_take (i := 34) (v := ?vv54) (by simp only [List.getElem?_toArray, List.getElem?_cons_zero, List.getElem?_cons_succ]; rfl) (by kernel_rfl) (by kernel_rfl) (by kernel_rfl) (fun _ _ _ h => h) (Or.inl ⟨by rfl, ?yy54⟩) (by assumption) ?rr54
    case yy54 => (intro w hSw; go_simp; first | done | with_reducible rfl)
    simp only [Act.put, List.setIfInBounds_toArray, List.set_cons_zero, List.set_cons_succ]
    refine wpAnyH_done (by kernel_rfl) ?_ _
    refine NoPanic.normal ?_
    go_wp2_with fail
    go_ret
    exact ⟨rfl, B13.out⟩
theorem law_hknown (s : UInt64) (X Y : Option Addr) (cX nx cY ny : Nat) (xs ys : List UInt64) (a : Int) (w : World) (hX : Rg ucells w X xs) (hY : Rg ucells w Y ys) (lX : nx = xs.length) (lY : ny = ys.length) (capX : nx ≤ cX) (capY : ny ≤ cY) :
    Calls Try.prog 10 #[.int .u64 (uz s), .slice X nx cX, .slice Y ny cY, .int .i64 a] w fun e w' => e = .returned (.bool true) ∧ Below w.heap.size w w' := by
  subst lX lY
  exact law_hknown_core s X Y cX xs.length cY ys.length (min xs.length ys.length) (xs.take (min xs.length ys.length)) (ys.take (min xs.length ys.length)) a w (hX.take _) (hY.take _) (by simp) (by simp) capX capY (by omega)

end Go.Proofs.Ytdigdfkecnddiaa
