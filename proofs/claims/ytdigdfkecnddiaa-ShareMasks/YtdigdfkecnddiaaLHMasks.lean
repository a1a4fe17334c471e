/-
  ShareMasks: the first part is the same for all rows as long; the second ones of two rows are as far from one another as these are.
-/
import Derived.Test.YtdigdfkecnddiaaHHead
import Derived.Deep.RegionHeld3
namespace Go.Proofs.Ytdigdfkecnddiaa
open Go.RowKit

set_option maxHeartbeats 4000000 in
set_option maxRecDepth 100000 in
theorem law_hmasks_core (s : UInt64) (X Y : Option Addr) (cX nx cY ny n : Nat) (xs ys : List UInt64) (w : World) (hX : Rg ucells w X xs) (hY : Rg ucells w Y ys) (lX : n = xs.length) (lY : n = ys.length) (capX : nx ≤ cX) (capY : ny ≤ cY) (hc : (n = nx ∧ n ≤ ny ∧ n ≤ ny) ∨ (n = ny ∧ n < nx ∧ n ≤ nx)) :
    Calls Try.prog 7 #[.int .u64 (uz s), .slice X nx cX, .slice Y ny cY] w fun e w' => e = .returned (.bool true) ∧ Below w.heap.size w w' := by
  have RX := Lib.hid hX; have LX := Lib.hid lX; have RY := Lib.hid hY; have LY := Lib.hid lY
  clear hX lX hY lY
  rcases hc with ⟨h1, h2, h3⟩ | ⟨h1, h2, h3⟩
  · subst h1
    by_cases hg : 4096 < n
    · have d1 : decide (4096 < (n : Int)) = true := decide_eq_true (by omega)
      clear hg
      go_enter Try.func7, Try.ntmps7
      go_wp2_with fail
      refine (head10_any _).mono ?_
      rintro e w1 ⟨rfl, hb⟩
      have B1 := Lib.hid hb
      replace RX := Lib.hid (RX.out.below hb)
      replace RY := Lib.hid (RY.out.below hb)
      clear hb
      go_wp2_with fail
      go_ret
      exact ⟨rfl, B1.out⟩
    have d1 : decide (4096 < (n : Int)) = false := decide_eq_false (by omega)
    have n4 : n ≤ 4096 := by omega
    have H4 : Hid (xs.length ≤ 4096) := by show _ ≤ _; have := LX.out; omega
    have EL : Hid (xs.length = ys.length) := by show _ = _; rw [← LX.out, LY.out]
    have H5 : Hid (ys.length ≤ 4096) := by show _ ≤ _; have := LY.out; omega
    have kx : (n : Int) ≤ (cX : Int) := by omega
    have ky : (n : Int) ≤ (cY : Int) := by omega
    have kxn : n ≤ cX := by omega
    have kyn : n ≤ cY := by omega
    have kz : (0 : Int) ≤ (n : Int) := by omega
    clear hg
    go_enter Try.func7, Try.ntmps7
    go_wp2_with fail
    refine (head10_any _).mono ?_
    rintro e w1 ⟨rfl, hb⟩
    have B1 := Lib.hid hb
    replace RX := Lib.hid (RX.out.below hb)
    replace RY := Lib.hid (RY.out.below hb)
    clear hb
    go_wp2_with fail
    refine (split10 s X cX n (xs) _ RX.out LX.out (by omega)).mono ?_
    rintro e w2 ⟨Aa, ka, na, Ab, kb, nb, rfl, h1, h2, h3, h4, hb, h5, h6, h7, h8⟩
    have Ma := Lib.hid h1; have Ra := Lib.hid h2; have Mb := Lib.hid h3; have Rb := Lib.hid h4
    clear h1 h2 h3 h4 h5 h6 h7 h8
    have B2 := Lib.hid (chain B1.out hb)
    replace RX := Lib.hid (RX.out.below hb)
    replace RY := Lib.hid (RY.out.below hb)
    clear hb B1
    go_wp2_with fail
    refine (split10 s Y cY n (ys) _ RY.out LY.out (by omega)).mono ?_
    rintro e w3 ⟨Ac, kc, nc, Ad, kd, nd, rfl, h1, h2, h3, h4, hb, h5, h6, h7, h8⟩
    have Mc := Lib.hid h1; have Rc := Lib.hid h2; have Md := Lib.hid h3; have Rd := Lib.hid h4
    clear h1 h2 h3 h4 h5 h6 h7 h8
    have B3 := Lib.hid (chain B2.out hb)
    replace RX := Lib.hid (RX.out.below hb)
    replace RY := Lib.hid (RY.out.below hb)
    replace Ra := Lib.hid (Ra.out.below hb)
    replace Rb := Lib.hid (Rb.out.below hb)
    clear hb B2
    go_wp2_with fail
    refine wp_region_noPanic ?_
    refine wp_region_held_drew (S := fun _ => True) (by kernel_rfl) (by trivial) (fun hHeld => ?_)
    have hb := below_drew w3
    have B4 := Lib.hid (chain B3.out hb)
    replace RX := Lib.hid (RX.out.below hb)
    replace RY := Lib.hid (RY.out.below hb)
    replace Ra := Lib.hid (Ra.out.below hb)
    replace Rb := Lib.hid (Rb.out.below hb)
    replace Rc := Lib.hid (Rc.out.below hb)
    replace Rd := Lib.hid (Rd.out.below hb)
    clear hb B3
    refine wpAnyH_take (i := 0) (v := ?vv1) (by simp only [List.getElem?_toArray, List.getElem?_cons_zero]; rfl) (by kernel_rfl) (by kernel_rfl) (by kernel_rfl) (fun _ _ _ h => h) (Or.inl ⟨by rfl, ?yy1⟩) (by assumption) ?rr1
    case yy1 => (intro w hSw; go_simp; first | done | with_reducible rfl)
    simp only [Act.put, List.setIfInBounds_toArray, List.set_cons_zero, List.set_cons_succ]
    refine wpAnyH_take (i := 1) (v := ?vv2) (by simp only [List.getElem?_toArray, List.getElem?_cons_zero, List.getElem?_cons_succ]; rfl) (by kernel_rfl) (by kernel_rfl) (by kernel_rfl) (fun _ _ _ h => h) (Or.inl ⟨by rfl, ?yy2⟩) (by assumption) ?rr2
    case yy2 => (intro w hSw; go_simp; first | done | with_reducible rfl)
    simp only [Act.put, List.setIfInBounds_toArray, List.set_cons_zero, List.set_cons_succ]
    refine wpAnyH_take (i := 2) (v := ?vv3) (by simp only [List.getElem?_toArray, List.getElem?_cons_zero, List.getElem?_cons_succ]; rfl) (by kernel_rfl) (by kernel_rfl) (by kernel_rfl) (fun _ _ _ h => h) (Or.inl ⟨by rfl, ?yy3⟩) (by assumption) ?rr3
    case yy3 => (intro w hSw; go_simp; first | done | with_reducible rfl)
    simp only [Act.put, List.setIfInBounds_toArray, List.set_cons_zero, List.set_cons_succ]
    refine wpAnyH_take (i := 3) (v := ?vv4) (by simp only [List.getElem?_toArray, List.getElem?_cons_zero, List.getElem?_cons_succ]; rfl) (by kernel_rfl) (by kernel_rfl) (by kernel_rfl) (fun _ _ _ h => h) (Or.inl ⟨by rfl, ?yy4⟩) (by assumption) ?rr4
    case yy4 => (intro w hSw; go_simp; first | done | with_reducible rfl)
    simp only [Act.put, List.setIfInBounds_toArray, List.set_cons_zero, List.set_cons_succ]
    refine wpAnyH_ready (rs := [4]) (by kernel_rfl) (by simp) ?_
    refine AllReadyH.cons (by simp only [List.getElem?_toArray, List.getElem?_cons_zero, List.getElem?_cons_succ]; rfl) (fun K hK => ?_) AllReadyH.nil
    go_simp
    go_at_call 15
    (with_reducible refine (ssame Aa Ac ka kc na nc (splA s xs) (splA s ys) _ Ra.out Rc.out Ma.out Mc.out (by have q := Ma.out; rw [splA_len H4.out] at q; have := H4.out; omega) (splA_same EL.out)).mono ?_)
    rintro e w5 ⟨rfl, hb⟩
    have B5 := Lib.hid (chain B4.out hb)
    replace RX := Lib.hid (RX.out.below hb)
    replace RY := Lib.hid (RY.out.below hb)
    replace Ra := Lib.hid (Ra.out.below hb)
    replace Rb := Lib.hid (Rb.out.below hb)
    replace Rc := Lib.hid (Rc.out.below hb)
    replace Rd := Lib.hid (Rd.out.below hb)
    clear hb B4
    go_wp2_with fail
    refine hK.out _ _ trivial (fun hHeld => ?_)
    clear hK K
    try simp only [Act.put, List.setIfInBounds_toArray, List.set_cons_zero, List.set_cons_succ]
    refine wpAnyH_take (i := 5) (v := ?vv5) (by simp only [List.getElem?_toArray, List.getElem?_cons_zero, List.getElem?_cons_succ]; rfl) (by kernel_rfl) (by kernel_rfl) (by kernel_rfl) (fun _ _ _ h => h) (Or.inl ⟨by rfl, ?yy5⟩) (by assumption) ?rr5
    case yy5 => (intro w hSw; go_simp; first | done | with_reducible rfl)
    simp only [Act.put, List.setIfInBounds_toArray, List.set_cons_zero, List.set_cons_succ]
    refine wpAnyH_take (i := 6) (v := ?vv6) (by simp only [List.getElem?_toArray, List.getElem?_cons_zero, List.getElem?_cons_succ]; rfl) (by kernel_rfl) (by kernel_rfl) (by kernel_rfl) (fun _ _ _ h => h) (Or.inl ⟨by rfl, ?yy6⟩) (by assumption) ?rr6
    case yy6 => (intro w hSw; go_simp; first | done | with_reducible rfl)
    simp only [Act.put, List.setIfInBounds_toArray, List.set_cons_zero, List.set_cons_succ]
    refine wpAnyH_take (i := 7) (v := ?vv7) (by simp only [List.getElem?_toArray, List.getElem?_cons_zero, List.getElem?_cons_succ]; rfl) (by kernel_rfl) (by kernel_rfl) (by kernel_rfl) (fun _ _ _ h => h) (Or.inl ⟨by rfl, ?yy7⟩) (by assumption) ?rr7
    case yy7 => (intro w hSw; go_simp; first | done | with_reducible rfl)
    simp only [Act.put, List.setIfInBounds_toArray, List.set_cons_zero, List.set_cons_succ]
    refine wpAnyH_take (i := 8) (v := ?vv8) (by simp only [List.getElem?_toArray, List.getElem?_cons_zero, List.getElem?_cons_succ]; rfl) (by kernel_rfl) (by kernel_rfl) (by kernel_rfl) (fun _ _ _ h => h) (Or.inl ⟨by rfl, ?yy8⟩) (by assumption) ?rr8
    case yy8 => (intro w hSw; go_simp; first | done | with_reducible rfl)
    simp only [Act.put, List.setIfInBounds_toArray, List.set_cons_zero, List.set_cons_succ]
    refine wpAnyH_take (i := 10) (v := ?vv9) (by simp only [List.getElem?_toArray, List.getElem?_cons_zero, List.getElem?_cons_succ]; rfl) (by kernel_rfl) (by kernel_rfl) (by kernel_rfl) (fun _ _ _ h => h) (Or.inl ⟨by rfl, ?yy9⟩) (by assumption) ?rr9
    case yy9 => (intro w hSw; go_simp; first | done | with_reducible rfl)
    simp only [Act.put, List.setIfInBounds_toArray, List.set_cons_zero, List.set_cons_succ]
    refine wpAnyH_take (i := 11) (v := ?vv10) (by simp only [List.getElem?_toArray, List.getElem?_cons_zero, List.getElem?_cons_succ]; rfl) (by kernel_rfl) (by kernel_rfl) (by kernel_rfl) (fun _ _ _ h => h) (Or.inl ⟨by rfl, ?yy10⟩) (by assumption) ?rr10
    case yy10 => (intro w hSw; go_simp; first | done | with_reducible rfl)
    simp only [Act.put, List.setIfInBounds_toArray, List.set_cons_zero, List.set_cons_succ]
    refine wpAnyH_take (i := 13) (v := ?vv11) (by simp only [List.getElem?_toArray, List.getElem?_cons_zero, List.getElem?_cons_succ]; rfl) (by kernel_rfl) (by kernel_rfl) (by kernel_rfl) (fun _ _ _ h => h) (Or.inl ⟨by rfl, ?yy11⟩) (by assumption) ?rr11
    case yy11 => (intro w hSw; go_simp; first | done | with_reducible rfl)
    simp only [Act.put, List.setIfInBounds_toArray, List.set_cons_zero, List.set_cons_succ]
    refine wpAnyH_take (i := 14) (v := ?vv12) (by simp only [List.getElem?_toArray, List.getElem?_cons_zero, List.getElem?_cons_succ]; rfl) (by kernel_rfl) (by kernel_rfl) (by kernel_rfl) (fun _ _ _ h => h) (Or.inl ⟨by rfl, ?yy12⟩) (by assumption) ?rr12
    case yy12 => (intro w hSw; go_simp; first | done | with_reducible rfl)
    simp only [Act.put, List.setIfInBounds_toArray, List.set_cons_zero, List.set_cons_succ]
    refine wpAnyH_take (i := 12) (v := ?vv13) (by simp only [List.getElem?_toArray, List.getElem?_cons_zero, List.getElem?_cons_succ]; rfl) (by kernel_rfl) (by kernel_rfl) (by kernel_rfl) (fun _ _ _ h => h) (Or.inl ⟨by rfl, ?yy13⟩) (by assumption) ?rr13
    case yy13 => (intro w hSw; go_simp; first | done | with_reducible rfl)
    simp only [Act.put, List.setIfInBounds_toArray, List.set_cons_zero, List.set_cons_succ]
    refine wpAnyH_take (i := 15) (v := ?vv14) (by simp only [List.getElem?_toArray, List.getElem?_cons_zero, List.getElem?_cons_succ]; rfl) (by kernel_rfl) (by kernel_rfl) (by kernel_rfl) (fun _ _ _ h => h) (Or.inl ⟨by rfl, ?yy14⟩) (by assumption) ?rr14
    case yy14 => (intro w hSw; go_simp; first | done | with_reducible rfl)
    simp only [Act.put, List.setIfInBounds_toArray, List.set_cons_zero, List.set_cons_succ]
    refine wpAnyH_ready (rs := [9]) (by kernel_rfl) (by simp) ?_
    refine AllReadyH.cons (by simp only [List.getElem?_toArray, List.getElem?_cons_zero, List.getElem?_cons_succ]; rfl) (fun K hK => ?_) AllReadyH.nil
    go_simp
    go_at_call 19
    (with_reducible refine (nsub Ab Ad kb kd nb nd (splB s xs) (splB s ys) _ Rb.out Rd.out Mb.out Md.out (by have q := Mb.out; rw [splB_len H4.out] at q; have := H4.out; omega)).mono ?_)
    rintro e w6 ⟨Ae, ke, ne, rfl, h1, h2, hb, h4, h5, h6⟩
    have Me := Lib.hid h1; have Re := Lib.hid h2
    clear h1 h2 h4 h5 h6
    have B6 := Lib.hid (chain B5.out hb)
    replace RX := Lib.hid (RX.out.below hb)
    replace RY := Lib.hid (RY.out.below hb)
    replace Ra := Lib.hid (Ra.out.below hb)
    replace Rb := Lib.hid (Rb.out.below hb)
    replace Rc := Lib.hid (Rc.out.below hb)
    replace Rd := Lib.hid (Rd.out.below hb)
    clear hb B5
    go_wp2_with fail
    refine hK.out _ _ trivial (fun hHeld => ?_)
    clear hK K
    try simp only [Act.put, List.setIfInBounds_toArray, List.set_cons_zero, List.set_cons_succ]
    refine wpAnyH_ready (rs := [16]) (by kernel_rfl) (by simp) ?_
    refine AllReadyH.cons (by simp only [List.getElem?_toArray, List.getElem?_cons_zero, List.getElem?_cons_succ]; rfl) (fun K hK => ?_) AllReadyH.nil
    go_simp
    go_at_call 19
    (with_reducible refine (nsub X Y cX cY n n (xs) (ys) _ RX.out RY.out LX.out LY.out (by omega)).mono ?_)
    rintro e w7 ⟨Af, kf, nf, rfl, h1, h2, hb, h4, h5, h6⟩
    have Mf := Lib.hid h1; have Rf := Lib.hid h2
    clear h1 h2 h4 h5 h6
    have B7 := Lib.hid (chain B6.out hb)
    replace RX := Lib.hid (RX.out.below hb)
    replace RY := Lib.hid (RY.out.below hb)
    replace Ra := Lib.hid (Ra.out.below hb)
    replace Rb := Lib.hid (Rb.out.below hb)
    replace Rc := Lib.hid (Rc.out.below hb)
    replace Rd := Lib.hid (Rd.out.below hb)
    replace Re := Lib.hid (Re.out.below hb)
    clear hb B6
    go_wp2_with fail
    refine hK.out _ _ trivial (fun hHeld => ?_)
    clear hK K
    try simp only [Act.put, List.setIfInBounds_toArray, List.set_cons_zero, List.set_cons_succ]
    refine wpAnyH_ready (rs := [17]) (by kernel_rfl) (by simp) ?_
    refine AllReadyH.cons (by simp only [List.getElem?_toArray, List.getElem?_cons_zero, List.getElem?_cons_succ]; rfl) (fun K hK => ?_) AllReadyH.nil
    go_simp
    go_at_call 15
    (with_reducible refine (ssame Ae Af ke kf ne nf (subR (splB s xs) (splB s ys)) (subR xs ys) _ Re.out Rf.out Me.out Mf.out (by have q := Me.out; rw [masks_b H4.out EL.out] at q; simp only [subR, List.length_zipWith] at q; have := H4.out; omega) (masks_b H4.out EL.out)).mono ?_)
    rintro e w8 ⟨rfl, hb⟩
    have B8 := Lib.hid (chain B7.out hb)
    replace RX := Lib.hid (RX.out.below hb)
    replace RY := Lib.hid (RY.out.below hb)
    replace Ra := Lib.hid (Ra.out.below hb)
    replace Rb := Lib.hid (Rb.out.below hb)
    replace Rc := Lib.hid (Rc.out.below hb)
    replace Rd := Lib.hid (Rd.out.below hb)
    replace Re := Lib.hid (Re.out.below hb)
    replace Rf := Lib.hid (Rf.out.below hb)
    clear hb B7
    go_wp2_with fail
    refine hK.out _ _ trivial (fun hHeld => ?_)
    clear hK K
    try simp only [Act.put, List.setIfInBounds_toArray, List.set_cons_zero, List.set_cons_succ]
    refine wpAnyH_take (i := 18) (v := ?vv15) (by simp only [List.getElem?_toArray, List.getElem?_cons_zero, List.getElem?_cons_succ]; rfl) (by kernel_rfl) (by kernel_rfl) (by kernel_rfl) (fun _ _ _ h => h) (Or.inl ⟨by rfl, ?yy15⟩) (by assumption) ?rr15
    case yy15 => (intro w hSw; go_simp; first | done | with_reducible rfl)
    simp only [Act.put, List.setIfInBounds_toArray, List.set_cons_zero, List.set_cons_succ]
    refine wpAnyH_take (i := 19) (v := ?vv16) (by simp only [List.getElem?_toArray, List.getElem?_cons_zero, List.getElem?_cons_succ]; rfl) (by kernel_rfl) (by kernel_rfl) (by kernel_rfl) (fun _ _ _ h => h) (Or.inl ⟨by rfl, ?yy16⟩) (by assumption) ?rr16
    case yy16 => (intro w hSw; go_simp; first | done | with_reducible rfl)
    simp only [Act.put, List.setIfInBounds_toArray, List.set_cons_zero, List.set_cons_succ]
    refine wpAnyH_done (by kernel_rfl) ?_ _
    refine NoPanic.normal ?_
    go_wp2_with fail
    go_ret
    exact ⟨rfl, B8.out⟩
  · subst h1
    by_cases hg : 4096 < n
    · have d1 : decide (4096 < (n : Int)) = true := decide_eq_true (by omega)
      clear hg
      go_enter Try.func7, Try.ntmps7
      go_wp2_with fail
      refine (head10_any _).mono ?_
      rintro e w1 ⟨rfl, hb⟩
      have B1 := Lib.hid hb
      replace RX := Lib.hid (RX.out.below hb)
      replace RY := Lib.hid (RY.out.below hb)
      clear hb
      go_wp2_with fail
      go_ret
      exact ⟨rfl, B1.out⟩
    have d1 : decide (4096 < (n : Int)) = false := decide_eq_false (by omega)
    have n4 : n ≤ 4096 := by omega
    have H4 : Hid (xs.length ≤ 4096) := by show _ ≤ _; have := LX.out; omega
    have EL : Hid (xs.length = ys.length) := by show _ = _; rw [← LX.out, LY.out]
    have H5 : Hid (ys.length ≤ 4096) := by show _ ≤ _; have := LY.out; omega
    have kx : (n : Int) ≤ (cX : Int) := by omega
    have ky : (n : Int) ≤ (cY : Int) := by omega
    have kxn : n ≤ cX := by omega
    have kyn : n ≤ cY := by omega
    have kz : (0 : Int) ≤ (n : Int) := by omega
    clear hg
    go_enter Try.func7, Try.ntmps7
    go_wp2_with fail
    refine (head10_any _).mono ?_
    rintro e w1 ⟨rfl, hb⟩
    have B1 := Lib.hid hb
    replace RX := Lib.hid (RX.out.below hb)
    replace RY := Lib.hid (RY.out.below hb)
    clear hb
    go_wp2_with fail
    refine (split10 s X cX n (xs) _ RX.out LX.out (by omega)).mono ?_
    rintro e w2 ⟨Aa, ka, na, Ab, kb, nb, rfl, h1, h2, h3, h4, hb, h5, h6, h7, h8⟩
    have Ma := Lib.hid h1; have Ra := Lib.hid h2; have Mb := Lib.hid h3; have Rb := Lib.hid h4
    clear h1 h2 h3 h4 h5 h6 h7 h8
    have B2 := Lib.hid (chain B1.out hb)
    replace RX := Lib.hid (RX.out.below hb)
    replace RY := Lib.hid (RY.out.below hb)
    clear hb B1
    go_wp2_with fail
    refine (split10 s Y cY n (ys) _ RY.out LY.out (by omega)).mono ?_
    rintro e w3 ⟨Ac, kc, nc, Ad, kd, nd, rfl, h1, h2, h3, h4, hb, h5, h6, h7, h8⟩
    have Mc := Lib.hid h1; have Rc := Lib.hid h2; have Md := Lib.hid h3; have Rd := Lib.hid h4
    clear h1 h2 h3 h4 h5 h6 h7 h8
    have B3 := Lib.hid (chain B2.out hb)
    replace RX := Lib.hid (RX.out.below hb)
    replace RY := Lib.hid (RY.out.below hb)
    replace Ra := Lib.hid (Ra.out.below hb)
    replace Rb := Lib.hid (Rb.out.below hb)
    clear hb B2
    go_wp2_with fail
    refine wp_region_noPanic ?_
    refine wp_region_held_drew (S := fun _ => True) (by kernel_rfl) (by trivial) (fun hHeld => ?_)
    have hb := below_drew w3
    have B4 := Lib.hid (chain B3.out hb)
    replace RX := Lib.hid (RX.out.below hb)
    replace RY := Lib.hid (RY.out.below hb)
    replace Ra := Lib.hid (Ra.out.below hb)
    replace Rb := Lib.hid (Rb.out.below hb)
    replace Rc := Lib.hid (Rc.out.below hb)
    replace Rd := Lib.hid (Rd.out.below hb)
    clear hb B3
    refine wpAnyH_take (i := 0) (v := ?vv17) (by simp only [List.getElem?_toArray, List.getElem?_cons_zero]; rfl) (by kernel_rfl) (by kernel_rfl) (by kernel_rfl) (fun _ _ _ h => h) (Or.inl ⟨by rfl, ?yy17⟩) (by assumption) ?rr17
    case yy17 => (intro w hSw; go_simp; first | done | with_reducible rfl)
    simp only [Act.put, List.setIfInBounds_toArray, List.set_cons_zero, List.set_cons_succ]
    refine wpAnyH_take (i := 1) (v := ?vv18) (by simp only [List.getElem?_toArray, List.getElem?_cons_zero, List.getElem?_cons_succ]; rfl) (by kernel_rfl) (by kernel_rfl) (by kernel_rfl) (fun _ _ _ h => h) (Or.inl ⟨by rfl, ?yy18⟩) (by assumption) ?rr18
    case yy18 => (intro w hSw; go_simp; first | done | with_reducible rfl)
    simp only [Act.put, List.setIfInBounds_toArray, List.set_cons_zero, List.set_cons_succ]
    refine wpAnyH_take (i := 2) (v := ?vv19) (by simp only [List.getElem?_toArray, List.getElem?_cons_zero, List.getElem?_cons_succ]; rfl) (by kernel_rfl) (by kernel_rfl) (by kernel_rfl) (fun _ _ _ h => h) (Or.inl ⟨by rfl, ?yy19⟩) (by assumption) ?rr19
    case yy19 => (intro w hSw; go_simp; first | done | with_reducible rfl)
    simp only [Act.put, List.setIfInBounds_toArray, List.set_cons_zero, List.set_cons_succ]
    refine wpAnyH_take (i := 3) (v := ?vv20) (by simp only [List.getElem?_toArray, List.getElem?_cons_zero, List.getElem?_cons_succ]; rfl) (by kernel_rfl) (by kernel_rfl) (by kernel_rfl) (fun _ _ _ h => h) (Or.inl ⟨by rfl, ?yy20⟩) (by assumption) ?rr20
    case yy20 => (intro w hSw; go_simp; first | done | with_reducible rfl)
    simp only [Act.put, List.setIfInBounds_toArray, List.set_cons_zero, List.set_cons_succ]
    refine wpAnyH_ready (rs := [4]) (by kernel_rfl) (by simp) ?_
    refine AllReadyH.cons (by simp only [List.getElem?_toArray, List.getElem?_cons_zero, List.getElem?_cons_succ]; rfl) (fun K hK => ?_) AllReadyH.nil
    go_simp
    go_at_call 15
    (with_reducible refine (ssame Aa Ac ka kc na nc (splA s xs) (splA s ys) _ Ra.out Rc.out Ma.out Mc.out (by have q := Ma.out; rw [splA_len H4.out] at q; have := H4.out; omega) (splA_same EL.out)).mono ?_)
    rintro e w5 ⟨rfl, hb⟩
    have B5 := Lib.hid (chain B4.out hb)
    replace RX := Lib.hid (RX.out.below hb)
    replace RY := Lib.hid (RY.out.below hb)
    replace Ra := Lib.hid (Ra.out.below hb)
    replace Rb := Lib.hid (Rb.out.below hb)
    replace Rc := Lib.hid (Rc.out.below hb)
    replace Rd := Lib.hid (Rd.out.below hb)
    clear hb B4
    go_wp2_with fail
    refine hK.out _ _ trivial (fun hHeld => ?_)
    clear hK K
    try simp only [Act.put, List.setIfInBounds_toArray, List.set_cons_zero, List.set_cons_succ]
    refine wpAnyH_take (i := 5) (v := ?vv21) (by simp only [List.getElem?_toArray, List.getElem?_cons_zero, List.getElem?_cons_succ]; rfl) (by kernel_rfl) (by kernel_rfl) (by kernel_rfl) (fun _ _ _ h => h) (Or.inl ⟨by rfl, ?yy21⟩) (by assumption) ?rr21
    case yy21 => (intro w hSw; go_simp; first | done | with_reducible rfl)
    simp only [Act.put, List.setIfInBounds_toArray, List.set_cons_zero, List.set_cons_succ]
    refine wpAnyH_take (i := 6) (v := ?vv22) (by simp only [List.getElem?_toArray, List.getElem?_cons_zero, List.getElem?_cons_succ]; rfl) (by kernel_rfl) (by kernel_rfl) (by kernel_rfl) (fun _ _ _ h => h) (Or.inl ⟨by rfl, ?yy22⟩) (by assumption) ?rr22
    case yy22 => (intro w hSw; go_simp; first | done | with_reducible rfl)
    simp only [Act.put, List.setIfInBounds_toArray, List.set_cons_zero, List.set_cons_succ]
    refine wpAnyH_take (i := 7) (v := ?vv23) (by simp only [List.getElem?_toArray, List.getElem?_cons_zero, List.getElem?_cons_succ]; rfl) (by kernel_rfl) (by kernel_rfl) (by kernel_rfl) (fun _ _ _ h => h) (Or.inl ⟨by rfl, ?yy23⟩) (by assumption) ?rr23
    case yy23 => (intro w hSw; go_simp; first | done | with_reducible rfl)
    simp only [Act.put, List.setIfInBounds_toArray, List.set_cons_zero, List.set_cons_succ]
    refine wpAnyH_take (i := 8) (v := ?vv24) (by simp only [List.getElem?_toArray, List.getElem?_cons_zero, List.getElem?_cons_succ]; rfl) (by kernel_rfl) (by kernel_rfl) (by kernel_rfl) (fun _ _ _ h => h) (Or.inl ⟨by rfl, ?yy24⟩) (by assumption) ?rr24
    case yy24 => (intro w hSw; go_simp; first | done | with_reducible rfl)
    simp only [Act.put, List.setIfInBounds_toArray, List.set_cons_zero, List.set_cons_succ]
    refine wpAnyH_take (i := 10) (v := ?vv25) (by simp only [List.getElem?_toArray, List.getElem?_cons_zero, List.getElem?_cons_succ]; rfl) (by kernel_rfl) (by kernel_rfl) (by kernel_rfl) (fun _ _ _ h => h) (Or.inl ⟨by rfl, ?yy25⟩) (by assumption) ?rr25
    case yy25 => (intro w hSw; go_simp; first | done | with_reducible rfl)
    simp only [Act.put, List.setIfInBounds_toArray, List.set_cons_zero, List.set_cons_succ]
    refine wpAnyH_take (i := 11) (v := ?vv26) (by simp only [List.getElem?_toArray, List.getElem?_cons_zero, List.getElem?_cons_succ]; rfl) (by kernel_rfl) (by kernel_rfl) (by kernel_rfl) (fun _ _ _ h => h) (Or.inl ⟨by rfl, ?yy26⟩) (by assumption) ?rr26
    case yy26 => (intro w hSw; go_simp; first | done | with_reducible rfl)
    simp only [Act.put, List.setIfInBounds_toArray, List.set_cons_zero, List.set_cons_succ]
    refine wpAnyH_take (i := 13) (v := ?vv27) (by simp only [List.getElem?_toArray, List.getElem?_cons_zero, List.getElem?_cons_succ]; rfl) (by kernel_rfl) (by kernel_rfl) (by kernel_rfl) (fun _ _ _ h => h) (Or.inl ⟨by rfl, ?yy27⟩) (by assumption) ?rr27
    case yy27 => (intro w hSw; go_simp; first | done | with_reducible rfl)
    simp only [Act.put, List.setIfInBounds_toArray, List.set_cons_zero, List.set_cons_succ]
    refine wpAnyH_take (i := 14) (v := ?vv28) (by simp only [List.getElem?_toArray, List.getElem?_cons_zero, List.getElem?_cons_succ]; rfl) (by kernel_rfl) (by kernel_rfl) (by kernel_rfl) (fun _ _ _ h => h) (Or.inl ⟨by rfl, ?yy28⟩) (by assumption) ?rr28
    case yy28 => (intro w hSw; go_simp; first | done | with_reducible rfl)
    simp only [Act.put, List.setIfInBounds_toArray, List.set_cons_zero, List.set_cons_succ]
    refine wpAnyH_take (i := 12) (v := ?vv29) (by simp only [List.getElem?_toArray, List.getElem?_cons_zero, List.getElem?_cons_succ]; rfl) (by kernel_rfl) (by kernel_rfl) (by kernel_rfl) (fun _ _ _ h => h) (Or.inl ⟨by rfl, ?yy29⟩) (by assumption) ?rr29
    case yy29 => (intro w hSw; go_simp; first | done | with_reducible rfl)
    simp only [Act.put, List.setIfInBounds_toArray, List.set_cons_zero, List.set_cons_succ]
    refine wpAnyH_take (i := 15) (v := ?vv30) (by simp only [List.getElem?_toArray, List.getElem?_cons_zero, List.getElem?_cons_succ]; rfl) (by kernel_rfl) (by kernel_rfl) (by kernel_rfl) (fun _ _ _ h => h) (Or.inl ⟨by rfl, ?yy30⟩) (by assumption) ?rr30
    case yy30 => (intro w hSw; go_simp; first | done | with_reducible rfl)
    simp only [Act.put, List.setIfInBounds_toArray, List.set_cons_zero, List.set_cons_succ]
    refine wpAnyH_ready (rs := [9]) (by kernel_rfl) (by simp) ?_
    refine AllReadyH.cons (by simp only [List.getElem?_toArray, List.getElem?_cons_zero, List.getElem?_cons_succ]; rfl) (fun K hK => ?_) AllReadyH.nil
    go_simp
    go_at_call 19
    (with_reducible refine (nsub Ab Ad kb kd nb nd (splB s xs) (splB s ys) _ Rb.out Rd.out Mb.out Md.out (by have q := Mb.out; rw [splB_len H4.out] at q; have := H4.out; omega)).mono ?_)
    rintro e w6 ⟨Ae, ke, ne, rfl, h1, h2, hb, h4, h5, h6⟩
    have Me := Lib.hid h1; have Re := Lib.hid h2
    clear h1 h2 h4 h5 h6
    have B6 := Lib.hid (chain B5.out hb)
    replace RX := Lib.hid (RX.out.below hb)
    replace RY := Lib.hid (RY.out.below hb)
    replace Ra := Lib.hid (Ra.out.below hb)
    replace Rb := Lib.hid (Rb.out.below hb)
    replace Rc := Lib.hid (Rc.out.below hb)
    replace Rd := Lib.hid (Rd.out.below hb)
    clear hb B5
    go_wp2_with fail
    refine hK.out _ _ trivial (fun hHeld => ?_)
    clear hK K
    try simp only [Act.put, List.setIfInBounds_toArray, List.set_cons_zero, List.set_cons_succ]
    refine wpAnyH_ready (rs := [16]) (by kernel_rfl) (by simp) ?_
    refine AllReadyH.cons (by simp only [List.getElem?_toArray, List.getElem?_cons_zero, List.getElem?_cons_succ]; rfl) (fun K hK => ?_) AllReadyH.nil
    go_simp
    go_at_call 19
    (with_reducible refine (nsub X Y cX cY n n (xs) (ys) _ RX.out RY.out LX.out LY.out (by omega)).mono ?_)
    rintro e w7 ⟨Af, kf, nf, rfl, h1, h2, hb, h4, h5, h6⟩
    have Mf := Lib.hid h1; have Rf := Lib.hid h2
    clear h1 h2 h4 h5 h6
    have B7 := Lib.hid (chain B6.out hb)
    replace RX := Lib.hid (RX.out.below hb)
    replace RY := Lib.hid (RY.out.below hb)
    replace Ra := Lib.hid (Ra.out.below hb)
    replace Rb := Lib.hid (Rb.out.below hb)
    replace Rc := Lib.hid (Rc.out.below hb)
    replace Rd := Lib.hid (Rd.out.below hb)
    replace Re := Lib.hid (Re.out.below hb)
    clear hb B6
    go_wp2_with fail
    refine hK.out _ _ trivial (fun hHeld => ?_)
    clear hK K
    try simp only [Act.put, List.setIfInBounds_toArray, List.set_cons_zero, List.set_cons_succ]
    refine wpAnyH_ready (rs := [17]) (by kernel_rfl) (by simp) ?_
    refine AllReadyH.cons (by simp only [List.getElem?_toArray, List.getElem?_cons_zero, List.getElem?_cons_succ]; rfl) (fun K hK => ?_) AllReadyH.nil
    go_simp
    go_at_call 15
    (with_reducible refine (ssame Ae Af ke kf ne nf (subR (splB s xs) (splB s ys)) (subR xs ys) _ Re.out Rf.out Me.out Mf.out (by have q := Me.out; rw [masks_b H4.out EL.out] at q; simp only [subR, List.length_zipWith] at q; have := H4.out; omega) (masks_b H4.out EL.out)).mono ?_)
    rintro e w8 ⟨rfl, hb⟩
    have B8 := Lib.hid (chain B7.out hb)
    replace RX := Lib.hid (RX.out.below hb)
    replace RY := Lib.hid (RY.out.below hb)
    replace Ra := Lib.hid (Ra.out.below hb)
    replace Rb := Lib.hid (Rb.out.below hb)
    replace Rc := Lib.hid (Rc.out.below hb)
    replace Rd := Lib.hid (Rd.out.below hb)
    replace Re := Lib.hid (Re.out.below hb)
    replace Rf := Lib.hid (Rf.out.below hb)
    clear hb B7
    go_wp2_with fail
    refine hK.out _ _ trivial (fun hHeld => ?_)
    clear hK K
    try simp only [Act.put, List.setIfInBounds_toArray, List.set_cons_zero, List.set_cons_succ]
    refine wpAnyH_take (i := 18) (v := ?vv31) (by simp only [List.getElem?_toArray, List.getElem?_cons_zero, List.getElem?_cons_succ]; rfl) (by kernel_rfl) (by kernel_rfl) (by kernel_rfl) (fun _ _ _ h => h) (Or.inl ⟨by rfl, ?yy31⟩) (by assumption) ?rr31
    case yy31 => (intro w hSw; go_simp; first | done | with_reducible rfl)
    simp only [Act.put, List.setIfInBounds_toArray, List.set_cons_zero, List.set_cons_succ]
    refine wpAnyH_take (i := 19) (v := ?vv32) (by simp only [List.getElem?_toArray, List.getElem?_cons_zero, List.getElem?_cons_succ]; rfl) (by kernel_rfl) (by kernel_rfl) (by kernel_rfl) (fun _ _ _ h => h) (Or.inl ⟨by rfl, ?yy32⟩) (by assumption) ?rr32
    case yy32 => (intro w hSw; go_simp; first | done | with_reducible rfl)
    simp only [Act.put, List.setIfInBounds_toArray, List.set_cons_zero, List.set_cons_succ]
    refine wpAnyH_done (by kernel_rfl) ?_ _
    refine NoPanic.normal ?_
    go_wp2_with fail
    go_ret
    exact ⟨rfl, B8.out⟩
theorem law_hmasks (s : UInt64) (X Y : Option Addr) (cX nx cY ny : Nat) (xs ys : List UInt64) (w : World) (hX : Rg ucells w X xs) (hY : Rg ucells w Y ys) (lX : nx = xs.length) (lY : ny = ys.length) (capX : nx ≤ cX) (capY : ny ≤ cY) :
    Calls Try.prog 7 #[.int .u64 (uz s), .slice X nx cX, .slice Y ny cY] w fun e w' => e = .returned (.bool true) ∧ Below w.heap.size w w' := by
  subst lX lY
  exact law_hmasks_core s X Y cX xs.length cY ys.length (min xs.length ys.length) (xs.take (min xs.length ys.length)) (ys.take (min xs.length ys.length)) w (hX.take _) (hY.take _) (by simp) (by simp) capX capY (by omega)

end Go.Proofs.Ytdigdfkecnddiaa
