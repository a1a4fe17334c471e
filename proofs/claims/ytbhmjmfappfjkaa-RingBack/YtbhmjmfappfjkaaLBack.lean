/-
  What RingBack answers: true, whatever two rows it is asked.
-/
import Derived.Test.YtbhmjmfappfjkaaLaw
import Derived.Deep.RegionHeld3
namespace Go.Proofs.Ytbhmjmfappfjkaa
open Go.RowKit

theorem sub_self_nth (xs : List UInt64) (k : Nat) : nth (List.zipWith (· - ·) xs xs) k = 0 := by
  unfold nth
  rw [List.getD_eq_getElem?_getD, List.getElem?_zipWith]
  by_cases h : k < xs.length
  · simp [h]; rfl
  · simp [List.getElem?_eq_none (Nat.le_of_not_lt h)]; rfl
theorem add_sub_back (xs ys : List UInt64) (n : Nat) (hn : n = min xs.length ys.length) : List.zipWith (· - ·) (List.zipWith (· + ·) xs ys) ys = xs.take n := by
  subst hn
  apply List.ext_getElem
  · simp
  · intro i h1 h2
    simp
theorem sub_add_back (xs ys : List UInt64) (n : Nat) (hn : n = min xs.length ys.length) : List.zipWith (· + ·) (List.zipWith (· - ·) xs ys) ys = xs.take n := by
  subst hn
  apply List.ext_getElem
  · simp
  · intro i h1 h2
    simp

set_option maxHeartbeats 4000000 in
set_option maxRecDepth 100000 in
theorem back_first (Aa Ab : Option Addr) (ca cb n nb : Nat) (xs ys : List UInt64) (w : World) (ra : Rd w Aa xs) (rb : Rd w Ab ys) (ea : n = xs.length) (eb : nb = ys.length)
    (La : n ≤ 3000) (Lb : nb ≤ 3000) (fa : n ≤ ca) (hc : n ≤ nb) :
    Calls Try.prog 5 #[.slice Aa n ca, .slice Ab nb cb] w fun e w' => e = .returned (.bool true) ∧ Below w.heap.size w w' := by
  have hmin : n = min xs.length ys.length := by omega
  have HM := Lib.hid hmin; clear hmin
  have hnc : n ≤ ca := by omega
  have HG := Lib.hid (fun w => great_any Aa Ab ca cb n nb w La Lb)
  have HB0 : Hid (Below w.heap.size w w) := Below.refl _ _
  have Ra0 := Lib.hid ra; clear ra
  have Rb0 := Lib.hid rb; clear rb
  have Ea := Lib.hid ea; clear ea
  have Eb := Lib.hid eb; clear eb
  go_enter Try.func5, Try.ntmps5
  go_wp2_with fail
  refine (head_any w).mono ?_
  rintro e w1 ⟨rfl, hb⟩
  have HB1 : Hid (Below w.heap.size w w1) := chain HB0.out hb
  have Ra1 := Lib.hid (Ra0.out.below hb)
  have Rb1 := Lib.hid (Rb0.out.below hb)
  clear hb HB0 Ra0 Rb0
  go_wp2_with fail
  refine (HG.out w1).mono ?_
  rintro e w' ⟨rfl, rfl⟩
  go_wp2_with fail
  refine (sub_any Aa Aa ca ca _ _ xs xs w1 Ra1.out Ra1.out Ea.out Ea.out (by omega)).mono ?_
  rintro e w2 ⟨Ad, cd, nd, hnd, rfl, hr, hb⟩
  have HB2 : Hid (Below w.heap.size w w2) := chain HB1.out hb
  have Ra2 := Lib.hid (Ra1.out.below hb)
  have Rb2 := Lib.hid (Rb1.out.below hb)
  have HD := Lib.hid hr
  have Ed : n = nd := by rw [hnd, Ea.out]; simp
  have HND := Lib.hid hnd
  clear hb hr hnd HB1 Ra1 Rb1
  subst Ed
  go_wp2_with fail
  go_loop [8] (fun i => ∃ k : Nat, k ≤ n ∧ i = .int .i64 k) (fun i => n - (intOf i).toNat)
  case atStart => exact ⟨0, Nat.zero_le _, rfl⟩
  case round =>
    obtain ⟨k, hk, rfl⟩ := hrel
    by_cases hlt : k < n
    · obtain ⟨b1, o1, rfl, l1, c1⟩ := HD.out (by rw [← HND.out]; omega)
      have d1 : w2.cell? ⟨b1, o1 + k, none⟩ = some (.int .u64 0) := by
        rw [c1 k (by rw [← HND.out]; exact hlt), sub_self_nth]
      clear c1
      go_wp2_with fail
      go_round
      case rel => exact ⟨k + 1, by omega, by go_num⟩
      case measure => simp [intOf]; omega
    · have hkk : k = n := by omega
      go_wp2_with fail
      clear hkk hlt hk HD
      have HBd : Hid (Below w.heap.size w w2.drew) := HB2.out.drew
      have Rad : Hid (Rd w2.drew Aa xs) := Ra2.out
      have Rbd : Hid (Rd w2.drew Ab ys) := Rb2.out
      clear HB2 Ra2 Rb2
      have HB2 := Lib.hid HBd.out; clear HBd
      have Ra2 := Lib.hid Rad.out; clear Rad
      have Rb2 := Lib.hid Rbd.out; clear Rbd
      have tok1 : True := trivial
      go_region_held3 (fun _ => True) (exact trivial) (first
        | (go_at_call 15; have _t := tok1; clear tok1; refine (add_any Aa Ab ca cb n nb xs ys _ (by exact Ra2.out) (by exact Rb2.out) (by exact Ea.out) (by exact Eb.out) (by omega)).mono ?_; rintro e w3 ⟨Ap, cp, np, hp, rfl, hr, hb⟩; have HB3 : Hid (Below w.heap.size w w3) := chain HB2.out hb; have Ra3 := Lib.hid (Ra2.out.below hb); have Rb3 := Lib.hid (Rb2.out.below hb); clear hb HB2 Ra2 Rb2; have Rp3 := Lib.hid hr; clear hr; have Lp : np ≤ 3000 := (by rw [hp, List.length_zipWith, ← Ea.out]; omega); have Ep := Lib.hid hp; clear hp; have tok2 : True := trivial)
        | (go_at_call 17; have _t := tok2; clear tok2; refine (sub_any Ap Ab cp cb np nb (List.zipWith (· + ·) xs ys) ys _ (by exact Rp3.out) (by exact Rb3.out) (by exact Ep.out) (by exact Eb.out) (by omega)).mono ?_; rintro e w4 ⟨Aq, cq, nq, hq, rfl, hr, hb⟩; have HB4 : Hid (Below w.heap.size w w4) := chain HB3.out hb; have Ra4 := Lib.hid (Ra3.out.below hb); have Rb4 := Lib.hid (Rb3.out.below hb); clear hb HB3 Ra3 Rb3; have Rq4 := Lib.hid hr; clear hr; have Lq : nq ≤ 3000 := (by rw [hq, List.length_zipWith, ← Ep.out]; omega); have Eq := Lib.hid hq; clear hq; clear Rp3 Ep Lp; have tok3 : True := trivial)
        | (go_at_call 14; have _t := tok3; clear tok3; refine (same_any Aq Aa cq ca nq n (List.zipWith (· - ·) (List.zipWith (· + ·) xs ys) ys) (xs.take n) _ (by exact Rq4.out) (by exact Ra4.out.take n) (by exact Eq.out) (by simp only [List.length_take]; have h1 := Ea.out; omega) (by omega) (by exact add_sub_back xs ys n HM.out)).mono ?_; rintro e w5 ⟨rfl, hb⟩; have HB5 : Hid (Below w.heap.size w w5) := chain HB4.out hb; have Ra5 := Lib.hid (Ra4.out.below hb); have Rb5 := Lib.hid (Rb4.out.below hb); clear hb HB4 Ra4 Rb4; clear Rq4 Eq Lq; have tok4 : True := trivial)
        | (go_at_call 17; have _t := tok4; clear tok4; refine (sub_any Aa Ab ca cb n nb xs ys _ (by exact Ra5.out) (by exact Rb5.out) (by exact Ea.out) (by exact Eb.out) (by omega)).mono ?_; rintro e w6 ⟨Ar, cr, nr, hr0, rfl, hr, hb⟩; have HB6 : Hid (Below w.heap.size w w6) := chain HB5.out hb; have Ra6 := Lib.hid (Ra5.out.below hb); have Rb6 := Lib.hid (Rb5.out.below hb); clear hb HB5 Ra5 Rb5; have Rr6 := Lib.hid hr; clear hr; have Lr : nr ≤ 3000 := (by rw [hr0, List.length_zipWith, ← Ea.out]; omega); have Er := Lib.hid hr0; clear hr0; have tok5 : True := trivial)
        | (go_at_call 15; have _t := tok5; clear tok5; refine (add_any Ar Ab cr cb nr nb (List.zipWith (· - ·) xs ys) ys _ (by exact Rr6.out) (by exact Rb6.out) (by exact Er.out) (by exact Eb.out) (by omega)).mono ?_; rintro e w7 ⟨As, cs, ns, hs, rfl, hr, hb⟩; have HB7 : Hid (Below w.heap.size w w7) := chain HB6.out hb; have Ra7 := Lib.hid (Ra6.out.below hb); have Rb7 := Lib.hid (Rb6.out.below hb); clear hb HB6 Ra6 Rb6; have Rs7 := Lib.hid hr; clear hr; have Ls : ns ≤ 3000 := (by rw [hs, List.length_zipWith, ← Er.out]; omega); have Es := Lib.hid hs; clear hs; clear Rr6 Er Lr; have tok6 : True := trivial)
        | (go_at_call 14; have _t := tok6; clear tok6; refine (same_any As Aa cs ca ns n (List.zipWith (· + ·) (List.zipWith (· - ·) xs ys) ys) (xs.take n) _ (by exact Rs7.out) (by exact Ra7.out.take n) (by exact Es.out) (by simp only [List.length_take]; have h1 := Ea.out; omega) (by omega) (by exact sub_add_back xs ys n HM.out)).mono ?_; rintro e w8 ⟨rfl, hb⟩; have HB8 : Hid (Below w.heap.size w w8) := chain HB7.out hb; have Ra8 := Lib.hid (Ra7.out.below hb); have Rb8 := Lib.hid (Rb7.out.below hb); clear hb HB7 Ra7 Rb7; clear Rs7 Es Ls; have tok7 : True := trivial)
        | (go_at_call 19; have _t := tok7; clear tok7; refine (mul_any Aa Ab ca cb n nb xs ys _ (by exact Ra8.out) (by exact Rb8.out) (by exact Ea.out) (by exact Eb.out) (by omega)).mono ?_; rintro e w9 ⟨Am, cm, nm, hm, rfl, hr, hb⟩; have HB9 : Hid (Below w.heap.size w w9) := chain HB8.out hb; have Ra9 := Lib.hid (Ra8.out.below hb); have Rb9 := Lib.hid (Rb8.out.below hb); clear hb HB8 Ra8 Rb8; have Rm9 := Lib.hid hr; clear hr; obtain rfl : n = nm := (by rw [hm, List.length_zipWith]; exact HM.out); clear hm Rm9; have tok8 : True := trivial)
        | (go_at_call 15; have _t := tok8; clear tok8; refine (add_any Aa none ca 0 n 0 xs [] _ (by exact Ra9.out) (by exact Rd.nil _ _) (by exact Ea.out) (by exact rfl) (by omega)).mono ?_; rintro e w10 ⟨Az, cz, nz, hz, rfl, hr, hb⟩; have HB10 : Hid (Below w.heap.size w w10) := chain HB9.out hb; have Ra10 := Lib.hid (Ra9.out.below hb); have Rb10 := Lib.hid (Rb9.out.below hb); clear hb HB9 Ra9 Rb9; have Rz10 := Lib.hid hr; clear hr; obtain rfl : 0 = nz := (by rw [hz]; simp); clear hz Rz10; have tok9 : True := trivial)
        | fail)
      go_wp2_with fail
      go_ret
      exact ⟨rfl, HB10.out⟩

set_option maxHeartbeats 4000000 in
set_option maxRecDepth 100000 in
theorem back_second (Aa Ab : Option Addr) (ca cb na n : Nat) (xs ys : List UInt64) (w : World) (ra : Rd w Aa xs) (rb : Rd w Ab ys) (ea : na = xs.length) (eb : n = ys.length)
    (La : na ≤ 3000) (Lb : n ≤ 3000) (fa : na ≤ ca) (hc : n < na) :
    Calls Try.prog 5 #[.slice Aa na ca, .slice Ab n cb] w fun e w' => e = .returned (.bool true) ∧ Below w.heap.size w w' := by
  have hmin : n = min xs.length ys.length := by omega
  have HM := Lib.hid hmin; clear hmin
  have hnc : n ≤ ca := by omega
  have HG := Lib.hid (fun w => great_any Aa Ab ca cb na n w La Lb)
  have HB0 : Hid (Below w.heap.size w w) := Below.refl _ _
  have Ra0 := Lib.hid ra; clear ra
  have Rb0 := Lib.hid rb; clear rb
  have Ea := Lib.hid ea; clear ea
  have Eb := Lib.hid eb; clear eb
  go_enter Try.func5, Try.ntmps5
  go_wp2_with fail
  refine (head_any w).mono ?_
  rintro e w1 ⟨rfl, hb⟩
  have HB1 : Hid (Below w.heap.size w w1) := chain HB0.out hb
  have Ra1 := Lib.hid (Ra0.out.below hb)
  have Rb1 := Lib.hid (Rb0.out.below hb)
  clear hb HB0 Ra0 Rb0
  go_wp2_with fail
  refine (HG.out w1).mono ?_
  rintro e w' ⟨rfl, rfl⟩
  go_wp2_with fail
  refine (sub_any Aa Aa ca ca _ _ xs xs w1 Ra1.out Ra1.out Ea.out Ea.out (by omega)).mono ?_
  rintro e w2 ⟨Ad, cd, nd, hnd, rfl, hr, hb⟩
  have HB2 : Hid (Below w.heap.size w w2) := chain HB1.out hb
  have Ra2 := Lib.hid (Ra1.out.below hb)
  have Rb2 := Lib.hid (Rb1.out.below hb)
  have HD := Lib.hid hr
  have Ed : na = nd := by rw [hnd, Ea.out]; simp
  have HND := Lib.hid hnd
  clear hb hr hnd HB1 Ra1 Rb1
  subst Ed
  go_wp2_with fail
  go_loop [8] (fun i => ∃ k : Nat, k ≤ na ∧ i = .int .i64 k) (fun i => na - (intOf i).toNat)
  case atStart => exact ⟨0, Nat.zero_le _, rfl⟩
  case round =>
    obtain ⟨k, hk, rfl⟩ := hrel
    by_cases hlt : k < na
    · obtain ⟨b1, o1, rfl, l1, c1⟩ := HD.out (by rw [← HND.out]; omega)
      have d1 : w2.cell? ⟨b1, o1 + k, none⟩ = some (.int .u64 0) := by
        rw [c1 k (by rw [← HND.out]; exact hlt), sub_self_nth]
      clear c1
      go_wp2_with fail
      go_round
      case rel => exact ⟨k + 1, by omega, by go_num⟩
      case measure => simp [intOf]; omega
    · have hkk : k = na := by omega
      go_wp2_with fail
      clear hkk hlt hk HD
      have HBd : Hid (Below w.heap.size w w2.drew) := HB2.out.drew
      have Rad : Hid (Rd w2.drew Aa xs) := Ra2.out
      have Rbd : Hid (Rd w2.drew Ab ys) := Rb2.out
      clear HB2 Ra2 Rb2
      have HB2 := Lib.hid HBd.out; clear HBd
      have Ra2 := Lib.hid Rad.out; clear Rad
      have Rb2 := Lib.hid Rbd.out; clear Rbd
      have tok1 : True := trivial
      go_region_held3 (fun _ => True) (exact trivial) (first
        | (go_at_call 15; have _t := tok1; clear tok1; refine (add_any Aa Ab ca cb na n xs ys _ (by exact Ra2.out) (by exact Rb2.out) (by exact Ea.out) (by exact Eb.out) (by omega)).mono ?_; rintro e w3 ⟨Ap, cp, np, hp, rfl, hr, hb⟩; have HB3 : Hid (Below w.heap.size w w3) := chain HB2.out hb; have Ra3 := Lib.hid (Ra2.out.below hb); have Rb3 := Lib.hid (Rb2.out.below hb); clear hb HB2 Ra2 Rb2; have Rp3 := Lib.hid hr; clear hr; have Lp : np ≤ 3000 := (by rw [hp, List.length_zipWith, ← Ea.out]; omega); have Ep := Lib.hid hp; clear hp; have tok2 : True := trivial)
        | (go_at_call 17; have _t := tok2; clear tok2; refine (sub_any Ap Ab cp cb np n (List.zipWith (· + ·) xs ys) ys _ (by exact Rp3.out) (by exact Rb3.out) (by exact Ep.out) (by exact Eb.out) (by omega)).mono ?_; rintro e w4 ⟨Aq, cq, nq, hq, rfl, hr, hb⟩; have HB4 : Hid (Below w.heap.size w w4) := chain HB3.out hb; have Ra4 := Lib.hid (Ra3.out.below hb); have Rb4 := Lib.hid (Rb3.out.below hb); clear hb HB3 Ra3 Rb3; have Rq4 := Lib.hid hr; clear hr; have Lq : nq ≤ 3000 := (by rw [hq, List.length_zipWith, ← Ep.out]; omega); have Eq := Lib.hid hq; clear hq; clear Rp3 Ep Lp; have tok3 : True := trivial)
        | (go_at_call 14; have _t := tok3; clear tok3; refine (same_any Aq Aa cq ca nq n (List.zipWith (· - ·) (List.zipWith (· + ·) xs ys) ys) (xs.take n) _ (by exact Rq4.out) (by exact Ra4.out.take n) (by exact Eq.out) (by simp only [List.length_take]; have h1 := Ea.out; omega) (by omega) (by exact add_sub_back xs ys n HM.out)).mono ?_; rintro e w5 ⟨rfl, hb⟩; have HB5 : Hid (Below w.heap.size w w5) := chain HB4.out hb; have Ra5 := Lib.hid (Ra4.out.below hb); have Rb5 := Lib.hid (Rb4.out.below hb); clear hb HB4 Ra4 Rb4; clear Rq4 Eq Lq; have tok4 : True := trivial)
        | (go_at_call 17; have _t := tok4; clear tok4; refine (sub_any Aa Ab ca cb na n xs ys _ (by exact Ra5.out) (by exact Rb5.out) (by exact Ea.out) (by exact Eb.out) (by omega)).mono ?_; rintro e w6 ⟨Ar, cr, nr, hr0, rfl, hr, hb⟩; have HB6 : Hid (Below w.heap.size w w6) := chain HB5.out hb; have Ra6 := Lib.hid (Ra5.out.below hb); have Rb6 := Lib.hid (Rb5.out.below hb); clear hb HB5 Ra5 Rb5; have Rr6 := Lib.hid hr; clear hr; have Lr : nr ≤ 3000 := (by rw [hr0, List.length_zipWith, ← Ea.out]; omega); have Er := Lib.hid hr0; clear hr0; have tok5 : True := trivial)
        | (go_at_call 15; have _t := tok5; clear tok5; refine (add_any Ar Ab cr cb nr n (List.zipWith (· - ·) xs ys) ys _ (by exact Rr6.out) (by exact Rb6.out) (by exact Er.out) (by exact Eb.out) (by omega)).mono ?_; rintro e w7 ⟨As, cs, ns, hs, rfl, hr, hb⟩; have HB7 : Hid (Below w.heap.size w w7) := chain HB6.out hb; have Ra7 := Lib.hid (Ra6.out.below hb); have Rb7 := Lib.hid (Rb6.out.below hb); clear hb HB6 Ra6 Rb6; have Rs7 := Lib.hid hr; clear hr; have Ls : ns ≤ 3000 := (by rw [hs, List.length_zipWith, ← Er.out]; omega); have Es := Lib.hid hs; clear hs; clear Rr6 Er Lr; have tok6 : True := trivial)
        | (go_at_call 14; have _t := tok6; clear tok6; refine (same_any As Aa cs ca ns n (List.zipWith (· + ·) (List.zipWith (· - ·) xs ys) ys) (xs.take n) _ (by exact Rs7.out) (by exact Ra7.out.take n) (by exact Es.out) (by simp only [List.length_take]; have h1 := Ea.out; omega) (by omega) (by exact sub_add_back xs ys n HM.out)).mono ?_; rintro e w8 ⟨rfl, hb⟩; have HB8 : Hid (Below w.heap.size w w8) := chain HB7.out hb; have Ra8 := Lib.hid (Ra7.out.below hb); have Rb8 := Lib.hid (Rb7.out.below hb); clear hb HB7 Ra7 Rb7; clear Rs7 Es Ls; have tok7 : True := trivial)
        | (go_at_call 19; have _t := tok7; clear tok7; refine (mul_any Aa Ab ca cb na n xs ys _ (by exact Ra8.out) (by exact Rb8.out) (by exact Ea.out) (by exact Eb.out) (by omega)).mono ?_; rintro e w9 ⟨Am, cm, nm, hm, rfl, hr, hb⟩; have HB9 : Hid (Below w.heap.size w w9) := chain HB8.out hb; have Ra9 := Lib.hid (Ra8.out.below hb); have Rb9 := Lib.hid (Rb8.out.below hb); clear hb HB8 Ra8 Rb8; have Rm9 := Lib.hid hr; clear hr; obtain rfl : n = nm := (by rw [hm, List.length_zipWith]; exact HM.out); clear hm Rm9; have tok8 : True := trivial)
        | (go_at_call 15; have _t := tok8; clear tok8; refine (add_any Aa none ca 0 na 0 xs [] _ (by exact Ra9.out) (by exact Rd.nil _ _) (by exact Ea.out) (by exact rfl) (by omega)).mono ?_; rintro e w10 ⟨Az, cz, nz, hz, rfl, hr, hb⟩; have HB10 : Hid (Below w.heap.size w w10) := chain HB9.out hb; have Ra10 := Lib.hid (Ra9.out.below hb); have Rb10 := Lib.hid (Rb9.out.below hb); clear hb HB9 Ra9 Rb9; have Rz10 := Lib.hid hr; clear hr; obtain rfl : 0 = nz := (by rw [hz]; simp); clear hz Rz10; have tok9 : True := trivial)
        | fail)
      go_wp2_with fail
      go_ret
      exact ⟨rfl, HB10.out⟩


set_option maxHeartbeats 400000 in
theorem back_great (Aa Ab : Option Addr) (ca cb na nb : Nat) (w : World) (h : 3000 < na ∨ 3000 < nb) :
    Calls Try.prog 5 #[.slice Aa na ca, .slice Ab nb cb] w fun e w' => e = .returned (.bool true) ∧ Below w.heap.size w w' := by
  have HG := Lib.hid (fun w => great_not Aa Ab ca cb na nb w h); clear h
  go_enter Try.func5, Try.ntmps5
  go_wp2_with fail
  refine (head_any w).mono ?_
  rintro e w1 ⟨rfl, hb⟩
  have HB := Lib.hid hb; clear hb
  go_wp2_with fail
  refine (HG.out w1).mono ?_
  rintro e w' ⟨rfl, rfl⟩
  go_wp2_with fail
  go_ret
  exact ⟨rfl, HB.out⟩

theorem back_walk (Aa : Option Addr) (ca na : Nat) (xs : List UInt64) (Ab : Option Addr) (cb nb : Nat) (ys : List UInt64) (w : World)
    (ra : Rd w Aa xs) (ea : na = xs.length) (fa : na ≤ ca) (rb : Rd w Ab ys) (eb : nb = ys.length) (_ : nb ≤ cb) :
    Calls Try.prog 5 #[.slice Aa na ca, .slice Ab nb cb] w fun e w' => e = .returned (.bool true) ∧ Below w.heap.size w w' := by
  by_cases h : 3000 < na ∨ 3000 < nb
  · exact back_great Aa Ab ca cb na nb w h
  · by_cases hc : na ≤ nb
    · exact back_first Aa Ab ca cb na nb xs ys w ra rb ea eb (by omega) (by omega) fa hc
    · exact back_second Aa Ab ca cb na nb xs ys w ra rb ea eb (by omega) (by omega) fa (by omega)

end Go.Proofs.Ytbhmjmfappfjkaa
