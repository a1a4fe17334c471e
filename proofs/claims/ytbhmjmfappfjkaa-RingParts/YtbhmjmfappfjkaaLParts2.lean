/-
  RingParts, one of eight ways: which row is shorter, and whether a cut lies at a row's very end.
-/
import Derived.Test.YtbhmjmfappfjkaaLParts0
namespace Go.Proofs.Ytbhmjmfappfjkaa
open Go.RowKit

set_option maxHeartbeats 4000000 in
set_option maxRecDepth 100000 in
theorem parts_first_ne (Aa Ab : Option Addr) (ca n nb k : Nat) (a2 : Int) (xs ys : List UInt64) (w : World) (ra : Rd w Aa xs) (rb : Rd w Ab ys) (ea : n = xs.length) (eb : n = ys.length)
    (La : n ≤ 3000) (fa : n ≤ ca) (fb : n ≤ k) (t0 : 0 ≤ a2) (t1 : a2 ≤ 65535) (hc : n ≤ nb) (ga : ¬ ca = k) (hk : a2 % ((n : Int) + 1) = (k : Int)) (hkn : k ≤ n) :
    Calls Try.prog 7 #[.slice Aa n ca, .slice Ab nb k, .int .u16 a2] w fun e w' => e = .returned (.bool true) ∧ Below w.heap.size w w' := by
  have DA : Hid (∀ w', Rd w' Aa xs → Rd w' (Aa.map (·.add k)) (xs.drop k)) := fun w' h => by have := h.drop (k := k) (cap := ca) (by omega); rwa [if_neg ga] at this
  have DB : Hid (∀ w', Rd w' Ab ys → Rd w' Ab (ys.drop k)) := fun w' _ => by rw [List.drop_of_length_le (by omega)]; exact Rd.nil _ _
  have HB0 : Hid (Below w.heap.size w w) := Below.refl _ _
  have Ra0 := Lib.hid ra; clear ra
  have Rb0 := Lib.hid rb; clear rb
  have Ea := Lib.hid ea; clear ea
  have Eb := Lib.hid eb; clear eb
  have hg : decide (3000 < (n : Int)) = false := decide_eq_false (by omega)
  have hz : ((n : Int) + 1 == 0) = false := beq_eq_false_iff_ne.2 (by omega)
  have HK := Lib.hid hk; clear hk
  go_enter Try.func7, Try.ntmps7
  go_wp2_with fail
  refine (head_any w).mono ?_
  rintro e w1 ⟨rfl, hb⟩
  have HBd : Hid (Below w.heap.size w w1.drew) := (chain HB0.out hb).drew
  have Rad : Hid (Rd w1.drew Aa xs) := Ra0.out.below hb.drew
  have Rbd : Hid (Rd w1.drew Ab ys) := Rb0.out.below hb.drew
  clear hb HB0 Ra0 Rb0
  have HB1 := Lib.hid HBd.out; clear HBd
  have Ra1 := Lib.hid Rad.out; clear Rad
  have Rb1 := Lib.hid Rbd.out; clear Rbd
  go_wp2_with fail
  rw [HK.out]
  clear HK hz hg t0 t1
  have k0 : (0 : Int) ≤ (k : Int) := Int.natCast_nonneg _
  have k1 : (k : Int) ≤ (n : Int) := by omega
  have k2 : k ≤ ca := by omega
  have k3 : k ≤ k := by omega
  have tok1 : True := trivial
  go_region_held3 (fun _ => True) (exact trivial) (first
    | (go_at_call 23; have _t := tok1; clear tok1; refine (sum_any _ _ _ xs _ (by exact Ra1.out) (by exact Ea.out) (by omega)).mono ?_; rintro e w' ⟨rfl, rfl⟩; obtain ⟨s1, hs1⟩ : ∃ s : UInt64, s = usum xs := ⟨_, rfl⟩; rw [← hs1]; have Hs1 := Lib.hid hs1; clear hs1; have tok2 : True := trivial)
    | (go_at_call 23; have _t := tok2; clear tok2; refine (sum_any _ _ _ (xs.take k) _ (by exact Ra1.out.take k) (by rw [List.length_take, ← Ea.out]; omega) (by omega)).mono ?_; rintro e w' ⟨rfl, rfl⟩; obtain ⟨s2, hs2⟩ : ∃ s : UInt64, s = usum (xs.take k) := ⟨_, rfl⟩; rw [← hs2]; have Hs2 := Lib.hid hs2; clear hs2; have tok3 : True := trivial)
    | (go_at_call 23; have _t := tok3; clear tok3; refine (sum_any _ _ _ (xs.drop k) _ (by exact DA.out _ Ra1.out) (by have h1 := Ea.out; rw [List.length_drop]; omega) (by omega)).mono ?_; rintro e w' ⟨rfl, rfl⟩; obtain ⟨s3, hs3⟩ : ∃ s : UInt64, s = usum (xs.drop k) := ⟨_, rfl⟩; rw [← hs3]; have Hs3 := Lib.hid hs3; clear hs3; have f1 : (uz s1 == IntKind.u64.wrap (uz s2 + uz s3)) = true := (by rw [uz_add, uz_beq, beq_iff_eq, Hs1.out, Hs2.out, Hs3.out]; exact sum_parts xs k); have tok4 : True := trivial)
    | (go_at_call 25; have _t := tok4; clear tok4; refine (dot_any _ _ _ _ _ _ xs ys _ (by exact Ra1.out) (by exact Rb1.out) (by exact Ea.out) (by exact Eb.out) (by omega)).mono ?_; rintro e w2 ⟨rfl, hb⟩; have HB2 : Hid (Below w.heap.size w w2) := chain HB1.out hb; have Ra2 := Lib.hid (Ra1.out.below hb); have Rb2 := Lib.hid (Rb1.out.below hb); clear hb HB1 Ra1 Rb1; obtain ⟨s4, hs4⟩ : ∃ s : UInt64, s = udot xs ys := ⟨_, rfl⟩; rw [← hs4]; have Hs4 := Lib.hid hs4; clear hs4; have tok5 : True := trivial)
    | (go_at_call 25; have _t := tok5; clear tok5; refine (dot_any _ _ _ _ _ _ (xs.take k) (ys.take k) _ (by exact Ra2.out.take k) (by exact Rb2.out.take k) (by rw [List.length_take, ← Ea.out]; omega) (by rw [List.length_take, ← Eb.out]; omega) (by omega)).mono ?_; rintro e w3 ⟨rfl, hb⟩; have HB3 : Hid (Below w.heap.size w w3) := chain HB2.out hb; have Ra3 := Lib.hid (Ra2.out.below hb); have Rb3 := Lib.hid (Rb2.out.below hb); clear hb HB2 Ra2 Rb2; obtain ⟨s5, hs5⟩ : ∃ s : UInt64, s = udot (xs.take k) (ys.take k) := ⟨_, rfl⟩; rw [← hs5]; have Hs5 := Lib.hid hs5; clear hs5; have tok6 : True := trivial)
    | (go_at_call 25; have _t := tok6; clear tok6; refine (dot_any _ _ _ _ _ _ (xs.drop k) (ys.drop k) _ (by exact DA.out _ Ra3.out) (by exact DB.out _ Rb3.out) (by have h1 := Ea.out; rw [List.length_drop]; omega) (by have h1 := Eb.out; rw [List.length_drop]; omega) (by omega)).mono ?_; rintro e w4 ⟨rfl, hb⟩; have HB4 : Hid (Below w.heap.size w w4) := chain HB3.out hb; have Ra4 := Lib.hid (Ra3.out.below hb); have Rb4 := Lib.hid (Rb3.out.below hb); clear hb HB3 Ra3 Rb3; obtain ⟨s6, hs6⟩ : ∃ s : UInt64, s = udot (xs.drop k) (ys.drop k) := ⟨_, rfl⟩; rw [← hs6]; have Hs6 := Lib.hid hs6; clear hs6; have f2 : (uz s4 == IntKind.u64.wrap (uz s5 + uz s6)) = true := (by rw [uz_add, uz_beq, beq_iff_eq, Hs4.out, Hs5.out, Hs6.out]; exact dot_parts xs ys k); have tok7 : True := trivial)
    | (go_at_call 21; have _t := tok7; clear tok7; refine (scale_two _ _ _ xs _ (by exact Ra4.out) (by exact Ea.out) (by omega)).mono ?_; rintro e w5 ⟨Ap, cp, np, hp, rfl, hr, hb⟩; have HB5 : Hid (Below w.heap.size w w5) := chain HB4.out hb; have Ra5 := Lib.hid (Ra4.out.below hb); have Rb5 := Lib.hid (Rb4.out.below hb); clear hb HB4 Ra4 Rb4; have Rp5 := Lib.hid hr; clear hr; have Lp : np ≤ 3000 := (by rw [hp, List.length_map, ← Ea.out]; omega); have Ep := Lib.hid hp; clear hp; have tok8 : True := trivial)
    | (go_at_call 15; have _t := tok8; clear tok8; refine (add_any _ _ _ _ _ _ xs xs _ (by exact Ra5.out) (by exact Ra5.out) (by exact Ea.out) (by exact Ea.out) (by omega)).mono ?_; rintro e w6 ⟨Aq, cq, nq, hq, rfl, hr, hb⟩; have HB6 : Hid (Below w.heap.size w w6) := chain HB5.out hb; have Ra6 := Lib.hid (Ra5.out.below hb); have Rb6 := Lib.hid (Rb5.out.below hb); have Rp6 := Lib.hid (Rp5.out.below hb); clear hb HB5 Ra5 Rb5 Rp5; have Rq6 := Lib.hid hr; clear hr; have Lq : nq ≤ 3000 := (by rw [hq, List.length_zipWith, ← Ea.out]; omega); have Eq := Lib.hid hq; clear hq; have tok9 : True := trivial)
    | (go_at_call 14; have _t := tok9; clear tok9; refine (same_any _ _ _ _ _ _ (xs.map (2 * ·)) (List.zipWith (· + ·) xs xs) _ (by exact Rp6.out) (by exact Rq6.out) (by exact Ep.out) (by exact Eq.out) (by omega) (by exact scale_two_eq xs)).mono ?_; rintro e w7 ⟨rfl, hb⟩; have HB7 : Hid (Below w.heap.size w w7) := chain HB6.out hb; have Ra7 := Lib.hid (Ra6.out.below hb); have Rb7 := Lib.hid (Rb6.out.below hb); clear hb HB6 Ra6 Rb6; clear Rp6 Rq6 Ep Eq Lp Lq; have tok10 : True := trivial)
    | (go_at_call 21; have _t := tok10; clear tok10; refine (scale_zero _ _ _ xs _ (by exact Ra7.out) (by exact Ea.out) (by omega)).mono ?_; rintro e w8 ⟨Ar, cr, nr, hr0, rfl, hr, hb⟩; have HB8 : Hid (Below w.heap.size w w8) := chain HB7.out hb; have Ra8 := Lib.hid (Ra7.out.below hb); have Rb8 := Lib.hid (Rb7.out.below hb); clear hb HB7 Ra7 Rb7; have Rr8 := Lib.hid hr; clear hr; have Lr : nr ≤ 3000 := (by rw [hr0, List.length_map, ← Ea.out]; omega); have Er := Lib.hid hr0; clear hr0; have tok11 : True := trivial)
    | (go_at_call 17; have _t := tok11; clear tok11; refine (sub_any _ _ _ _ _ _ ys ys _ (by exact Rb8.out) (by exact Rb8.out) (by exact Eb.out) (by exact Eb.out) (by omega)).mono ?_; rintro e w9 ⟨At, ct, nt, ht, rfl, hr, hb⟩; have HB9 : Hid (Below w.heap.size w w9) := chain HB8.out hb; have Ra9 := Lib.hid (Ra8.out.below hb); have Rb9 := Lib.hid (Rb8.out.below hb); have Rr9 := Lib.hid (Rr8.out.below hb); clear hb HB8 Ra8 Rb8 Rr8; have Rt9 := Lib.hid hr; clear hr; have Lt : nt ≤ 3000 := (by rw [ht, List.length_zipWith, ← Eb.out]; omega); have Et := Lib.hid ht; clear ht; have tok12 : True := trivial)
    | (go_at_call 14; have _t := tok12; clear tok12; refine (same_any _ _ _ _ _ _ (xs.map (0 * ·)) (List.zipWith (· - ·) ys ys) _ (by exact Rr9.out) (by exact Rt9.out) (by exact Er.out) (by exact Et.out) (by omega) (by exact scale_zero_eq xs ys (by rw [← Ea.out]; exact Eb.out))).mono ?_; rintro e w10 ⟨rfl, hb⟩; have HB10 : Hid (Below w.heap.size w w10) := chain HB9.out hb; have Ra10 := Lib.hid (Ra9.out.below hb); have Rb10 := Lib.hid (Rb9.out.below hb); clear hb HB9 Ra9 Rb9; clear Rr9 Rt9 Er Et Lr Lt; have tok13 : True := trivial)
    | fail)
  go_wp2_with fail
  go_ret
  exact ⟨rfl, HB10.out⟩

end Go.Proofs.Ytbhmjmfappfjkaa
