/-
  What RingDot answers: true, whatever three rows and number it is asked.
-/
import Derived.Test.YtbhmjmfappfjkaaLSum
namespace Go.Proofs.Ytbhmjmfappfjkaa
open Go.RowKit

theorem dot_add (xs ys zs : List UInt64) (n : Nat) (hx : xs.length = n) (hy : ys.length = n) (hz : zs.length = n) : udot (List.zipWith (· + ·) xs ys) zs = udot xs zs + udot ys zs := by
  induction n generalizing xs ys zs with
  | zero =>
    rw [List.length_eq_zero_iff] at hx hy hz
    subst hx hy hz
    simp [udot_nil]
  | succ n ih =>
    match xs, ys, zs, hx, hy, hz with
    | x :: xs, y :: ys, z :: zs, hx, hy, hz =>
      rw [List.zipWith_cons_cons, udot_cons, udot_cons, udot_cons, ih xs ys zs (by simpa using hx) (by simpa using hy) (by simpa using hz)]
      grind
theorem dot_sub (zs xs ys : List UInt64) (n : Nat) (hz : zs.length = n) (hx : xs.length = n) (hy : ys.length = n) : udot zs (List.zipWith (· - ·) xs ys) = udot zs xs - udot zs ys := by
  induction n generalizing xs ys zs with
  | zero =>
    rw [List.length_eq_zero_iff] at hx hy hz
    subst hx hy hz
    simp [udot_nil]
  | succ n ih =>
    match xs, ys, zs, hx, hy, hz with
    | x :: xs, y :: ys, z :: zs, hx, hy, hz =>
      rw [List.zipWith_cons_cons, udot_cons, udot_cons, udot_cons, ih zs xs ys (by simpa using hz) (by simpa using hx) (by simpa using hy)]
      grind
theorem dot_scale (k : UInt64) (xs ys : List UInt64) (n : Nat) (hx : xs.length = n) (hy : ys.length = n) : udot (xs.map (k * ·)) ys = k * udot xs ys := by
  induction n generalizing xs ys with
  | zero =>
    rw [List.length_eq_zero_iff] at hx hy
    subst hx hy
    simp [udot_nil]
  | succ n ih =>
    match xs, ys, hx, hy with
    | x :: xs, y :: ys, hx, hy =>
      rw [List.map_cons, udot_cons, udot_cons, ih xs ys (by simpa using hx) (by simpa using hy)]
      grind
theorem dot_comm (xs ys : List UInt64) : udot xs ys = udot ys xs := by
  unfold udot
  rw [List.zipWith_comm_of_comm (fun x y => UInt64.mul_comm x y)]

set_option maxHeartbeats 4000000 in
set_option maxRecDepth 100000 in
theorem dot_small (Aa Ab Ac : Option Addr) (ca cb cc na nb nc n : Nat) (xs ys zs : List UInt64) (k : UInt64) (w : World) (ra : Rd w Aa xs) (rb : Rd w Ab ys) (rc : Rd w Ac zs) (ea : n = xs.length) (eb : n = ys.length) (ec : n = zs.length)
    (La : n ≤ 3000) (fa : n ≤ ca) (fb : n ≤ cb) (fc : n ≤ cc) (hc : (n = na ∧ n ≤ nb ∧ n ≤ nc) ∨ (n = nb ∧ n < na ∧ n ≤ nc) ∨ (n = nc ∧ n < na ∧ n < nb)) :
    Calls Try.prog 6 #[.slice Aa na ca, .slice Ab nb cb, .slice Ac nc cc, .int .u64 (uz k)] w fun e w' => e = .returned (.bool true) ∧ Below w.heap.size w w' := by
  have HB : Hid (Below w.heap.size w w) := Below.refl _ _
  have Ra := Lib.hid ra; clear ra
  have Rb := Lib.hid rb; clear rb
  have Rc := Lib.hid rc; clear rc
  have Ea := Lib.hid ea; clear ea
  have Eb := Lib.hid eb; clear eb
  have Ec := Lib.hid ec; clear ec
  have Lb := La
  have Lc := La
  have hg : decide (3000 < (n : Int)) = false := decide_eq_false (by omega)
  rcases hc with ⟨h1, h2, h3⟩ | ⟨h1, h2, h3⟩ | ⟨h1, h2, h3⟩
  all_goals
    subst h1
    go_enter Try.func6, Try.ntmps6
    go_wp2_with fail
    refine (head_any w).mono ?_
    rintro e w1 ⟨rfl, hb⟩
    have HBn : Hid (Below w.heap.size w w1) := chain HB.out hb
    have Ran := Lib.hid (Ra.out.below hb); clear Ra
    have Rbn := Lib.hid (Rb.out.below hb); clear Rb
    have Rcn := Lib.hid (Rc.out.below hb); clear Rc
    clear HB hb
    have HB := Lib.hid HBn.out; clear HBn
    have Ra := Lib.hid Ran.out; clear Ran
    have Rb := Lib.hid Rbn.out; clear Rbn
    have Rc := Lib.hid Rcn.out; clear Rcn
    go_wp2_with fail
    refine (add_any Aa Ab ca cb n n xs ys w1 Ra.out Rb.out Ea.out Eb.out (by omega)).mono ?_
    rintro e w2 ⟨Ap, cp, np, hn, rfl, hr, hb⟩
    have Lp : np ≤ 3000 := by rw [List.length_zipWith] at hn; have h1 := Ea.out; omega
    have Ep := Lib.hid hn; clear hn
    have HBn : Hid (Below w.heap.size w w2) := chain HB.out hb
    have Ran := Lib.hid (Ra.out.below hb); clear Ra
    have Rbn := Lib.hid (Rb.out.below hb); clear Rb
    have Rcn := Lib.hid (Rc.out.below hb); clear Rc
    clear HB hb
    have HB := Lib.hid HBn.out; clear HBn
    have Ra := Lib.hid Ran.out; clear Ran
    have Rb := Lib.hid Rbn.out; clear Rbn
    have Rc := Lib.hid Rcn.out; clear Rcn
    have Rp := Lib.hid hr; clear hr
    go_wp2_with fail
    refine (dot_any Ap Ac cp cc np n (List.zipWith (· + ·) xs ys) zs w2 Rp.out Rc.out Ep.out Ec.out (by omega)).mono ?_
    rintro e w3 ⟨rfl, hb⟩
    have HBn : Hid (Below w.heap.size w w3) := chain HB.out hb
    have Ran := Lib.hid (Ra.out.below hb); clear Ra
    have Rbn := Lib.hid (Rb.out.below hb); clear Rb
    have Rcn := Lib.hid (Rc.out.below hb); clear Rc
    have Rpn := Lib.hid (Rp.out.below hb); clear Rp
    clear HB hb
    have HB := Lib.hid HBn.out; clear HBn
    have Ra := Lib.hid Ran.out; clear Ran
    have Rb := Lib.hid Rbn.out; clear Rbn
    have Rc := Lib.hid Rcn.out; clear Rcn
    have Rp := Lib.hid Rpn.out; clear Rpn
    obtain ⟨s1, hs1⟩ : ∃ s : UInt64, s = (udot (List.zipWith (· + ·) xs ys) zs) := ⟨_, rfl⟩
    rw [← hs1]
    have Hs1 := Lib.hid hs1; clear hs1
    go_wp2_with fail
    refine (dot_any Aa Ac ca cc n n xs zs w3 Ra.out Rc.out Ea.out Ec.out (by omega)).mono ?_
    rintro e w4 ⟨rfl, hb⟩
    have HBn : Hid (Below w.heap.size w w4) := chain HB.out hb
    have Ran := Lib.hid (Ra.out.below hb); clear Ra
    have Rbn := Lib.hid (Rb.out.below hb); clear Rb
    have Rcn := Lib.hid (Rc.out.below hb); clear Rc
    have Rpn := Lib.hid (Rp.out.below hb); clear Rp
    clear HB hb
    have HB := Lib.hid HBn.out; clear HBn
    have Ra := Lib.hid Ran.out; clear Ran
    have Rb := Lib.hid Rbn.out; clear Rbn
    have Rc := Lib.hid Rcn.out; clear Rcn
    have Rp := Lib.hid Rpn.out; clear Rpn
    obtain ⟨s2, hs2⟩ : ∃ s : UInt64, s = (udot xs zs) := ⟨_, rfl⟩
    rw [← hs2]
    have Hs2 := Lib.hid hs2; clear hs2
    go_wp2_with fail
    refine (dot_any Ab Ac cb cc n n ys zs w4 Rb.out Rc.out Eb.out Ec.out (by omega)).mono ?_
    rintro e w5 ⟨rfl, hb⟩
    have HBn : Hid (Below w.heap.size w w5) := chain HB.out hb
    have Ran := Lib.hid (Ra.out.below hb); clear Ra
    have Rbn := Lib.hid (Rb.out.below hb); clear Rb
    have Rcn := Lib.hid (Rc.out.below hb); clear Rc
    have Rpn := Lib.hid (Rp.out.below hb); clear Rp
    clear HB hb
    have HB := Lib.hid HBn.out; clear HBn
    have Ra := Lib.hid Ran.out; clear Ran
    have Rb := Lib.hid Rbn.out; clear Rbn
    have Rc := Lib.hid Rcn.out; clear Rcn
    have Rp := Lib.hid Rpn.out; clear Rpn
    obtain ⟨s3, hs3⟩ : ∃ s : UInt64, s = (udot ys zs) := ⟨_, rfl⟩
    rw [← hs3]
    have Hs3 := Lib.hid hs3; clear hs3
    have f1 : (uz s1 == IntKind.u64.wrap (uz s2 + uz s3)) = true := by rw [uz_add, uz_beq, beq_iff_eq, Hs1.out, Hs2.out, Hs3.out]; exact dot_add xs ys zs n Ea.out.symm Eb.out.symm Ec.out.symm
    clear Rp Ep Lp
    clear Hs1 Hs2 Hs3
    go_wp2_with fail
    clear f1
    refine (sub_any Aa Ab ca cb n n xs ys w5 Ra.out Rb.out Ea.out Eb.out (by omega)).mono ?_
    rintro e w6 ⟨Aq, cq, nq, hn, rfl, hr, hb⟩
    have Lq : nq ≤ 3000 := by rw [List.length_zipWith] at hn; have h1 := Ea.out; omega
    have Eq := Lib.hid hn; clear hn
    have HBn : Hid (Below w.heap.size w w6) := chain HB.out hb
    have Ran := Lib.hid (Ra.out.below hb); clear Ra
    have Rbn := Lib.hid (Rb.out.below hb); clear Rb
    have Rcn := Lib.hid (Rc.out.below hb); clear Rc
    clear HB hb
    have HB := Lib.hid HBn.out; clear HBn
    have Ra := Lib.hid Ran.out; clear Ran
    have Rb := Lib.hid Rbn.out; clear Rbn
    have Rc := Lib.hid Rcn.out; clear Rcn
    have Rq := Lib.hid hr; clear hr
    go_wp2_with fail
    refine (dot_any Ac Aq cc cq n nq zs (List.zipWith (· - ·) xs ys) w6 Rc.out Rq.out Ec.out Eq.out (by omega)).mono ?_
    rintro e w7 ⟨rfl, hb⟩
    have HBn : Hid (Below w.heap.size w w7) := chain HB.out hb
    have Ran := Lib.hid (Ra.out.below hb); clear Ra
    have Rbn := Lib.hid (Rb.out.below hb); clear Rb
    have Rcn := Lib.hid (Rc.out.below hb); clear Rc
    have Rqn := Lib.hid (Rq.out.below hb); clear Rq
    clear HB hb
    have HB := Lib.hid HBn.out; clear HBn
    have Ra := Lib.hid Ran.out; clear Ran
    have Rb := Lib.hid Rbn.out; clear Rbn
    have Rc := Lib.hid Rcn.out; clear Rcn
    have Rq := Lib.hid Rqn.out; clear Rqn
    obtain ⟨s4, hs4⟩ : ∃ s : UInt64, s = (udot zs (List.zipWith (· - ·) xs ys)) := ⟨_, rfl⟩
    rw [← hs4]
    have Hs4 := Lib.hid hs4; clear hs4
    go_wp2_with fail
    refine (dot_any Ac Aa cc ca n n zs xs w7 Rc.out Ra.out Ec.out Ea.out (by omega)).mono ?_
    rintro e w8 ⟨rfl, hb⟩
    have HBn : Hid (Below w.heap.size w w8) := chain HB.out hb
    have Ran := Lib.hid (Ra.out.below hb); clear Ra
    have Rbn := Lib.hid (Rb.out.below hb); clear Rb
    have Rcn := Lib.hid (Rc.out.below hb); clear Rc
    have Rqn := Lib.hid (Rq.out.below hb); clear Rq
    clear HB hb
    have HB := Lib.hid HBn.out; clear HBn
    have Ra := Lib.hid Ran.out; clear Ran
    have Rb := Lib.hid Rbn.out; clear Rbn
    have Rc := Lib.hid Rcn.out; clear Rcn
    have Rq := Lib.hid Rqn.out; clear Rqn
    obtain ⟨s5, hs5⟩ : ∃ s : UInt64, s = (udot zs xs) := ⟨_, rfl⟩
    rw [← hs5]
    have Hs5 := Lib.hid hs5; clear hs5
    go_wp2_with fail
    refine (dot_any Ac Ab cc cb n n zs ys w8 Rc.out Rb.out Ec.out Eb.out (by omega)).mono ?_
    rintro e w9 ⟨rfl, hb⟩
    have HBn : Hid (Below w.heap.size w w9) := chain HB.out hb
    have Ran := Lib.hid (Ra.out.below hb); clear Ra
    have Rbn := Lib.hid (Rb.out.below hb); clear Rb
    have Rcn := Lib.hid (Rc.out.below hb); clear Rc
    have Rqn := Lib.hid (Rq.out.below hb); clear Rq
    clear HB hb
    have HB := Lib.hid HBn.out; clear HBn
    have Ra := Lib.hid Ran.out; clear Ran
    have Rb := Lib.hid Rbn.out; clear Rbn
    have Rc := Lib.hid Rcn.out; clear Rcn
    have Rq := Lib.hid Rqn.out; clear Rqn
    obtain ⟨s6, hs6⟩ : ∃ s : UInt64, s = (udot zs ys) := ⟨_, rfl⟩
    rw [← hs6]
    have Hs6 := Lib.hid hs6; clear hs6
    have f2 : (uz s4 == IntKind.u64.wrap (uz s5 - uz s6)) = true := by rw [uz_sub, uz_beq, beq_iff_eq, Hs4.out, Hs5.out, Hs6.out]; exact dot_sub zs xs ys n Ec.out.symm Ea.out.symm Eb.out.symm
    clear Rq Eq Lq
    clear Hs4 Hs5 Hs6
    go_wp2_with fail
    clear f2
    refine (scale_any k Aa ca n xs w9 Ra.out Ea.out (by omega)).mono ?_
    rintro e w10 ⟨Am, cm, nm, hn, rfl, hr, hb⟩
    have Lm : nm ≤ 3000 := by rw [List.length_map] at hn; have h1 := Ea.out; omega
    have Em := Lib.hid hn; clear hn
    have HBn : Hid (Below w.heap.size w w10) := chain HB.out hb
    have Ran := Lib.hid (Ra.out.below hb); clear Ra
    have Rbn := Lib.hid (Rb.out.below hb); clear Rb
    have Rcn := Lib.hid (Rc.out.below hb); clear Rc
    clear HB hb
    have HB := Lib.hid HBn.out; clear HBn
    have Ra := Lib.hid Ran.out; clear Ran
    have Rb := Lib.hid Rbn.out; clear Rbn
    have Rc := Lib.hid Rcn.out; clear Rcn
    have Rm := Lib.hid hr; clear hr
    go_wp2_with fail
    refine (dot_any Am Ab cm cb nm n (xs.map (k * ·)) ys w10 Rm.out Rb.out Em.out Eb.out (by omega)).mono ?_
    rintro e w11 ⟨rfl, hb⟩
    have HBn : Hid (Below w.heap.size w w11) := chain HB.out hb
    have Ran := Lib.hid (Ra.out.below hb); clear Ra
    have Rbn := Lib.hid (Rb.out.below hb); clear Rb
    have Rcn := Lib.hid (Rc.out.below hb); clear Rc
    have Rmn := Lib.hid (Rm.out.below hb); clear Rm
    clear HB hb
    have HB := Lib.hid HBn.out; clear HBn
    have Ra := Lib.hid Ran.out; clear Ran
    have Rb := Lib.hid Rbn.out; clear Rbn
    have Rc := Lib.hid Rcn.out; clear Rcn
    have Rm := Lib.hid Rmn.out; clear Rmn
    obtain ⟨s7, hs7⟩ : ∃ s : UInt64, s = (udot (xs.map (k * ·)) ys) := ⟨_, rfl⟩
    rw [← hs7]
    have Hs7 := Lib.hid hs7; clear hs7
    go_wp2_with fail
    refine (dot_any Aa Ab ca cb n n xs ys w11 Ra.out Rb.out Ea.out Eb.out (by omega)).mono ?_
    rintro e w12 ⟨rfl, hb⟩
    have HBn : Hid (Below w.heap.size w w12) := chain HB.out hb
    have Ran := Lib.hid (Ra.out.below hb); clear Ra
    have Rbn := Lib.hid (Rb.out.below hb); clear Rb
    have Rcn := Lib.hid (Rc.out.below hb); clear Rc
    have Rmn := Lib.hid (Rm.out.below hb); clear Rm
    clear HB hb
    have HB := Lib.hid HBn.out; clear HBn
    have Ra := Lib.hid Ran.out; clear Ran
    have Rb := Lib.hid Rbn.out; clear Rbn
    have Rc := Lib.hid Rcn.out; clear Rcn
    have Rm := Lib.hid Rmn.out; clear Rmn
    obtain ⟨s8, hs8⟩ : ∃ s : UInt64, s = (udot xs ys) := ⟨_, rfl⟩
    rw [← hs8]
    have Hs8 := Lib.hid hs8; clear hs8
    have f3 : (uz s7 == IntKind.u64.wrap (uz k * uz s8)) = true := by rw [uz_mul, uz_beq, beq_iff_eq, Hs7.out, Hs8.out]; exact dot_scale k xs ys n Ea.out.symm Eb.out.symm
    clear Rm Em Lm
    clear Hs7 Hs8
    go_wp2_with fail
    clear f3
    refine (dot_any Aa Ab ca cb n n xs ys w12 Ra.out Rb.out Ea.out Eb.out (by omega)).mono ?_
    rintro e w13 ⟨rfl, hb⟩
    have HBn : Hid (Below w.heap.size w w13) := chain HB.out hb
    have Ran := Lib.hid (Ra.out.below hb); clear Ra
    have Rbn := Lib.hid (Rb.out.below hb); clear Rb
    have Rcn := Lib.hid (Rc.out.below hb); clear Rc
    clear HB hb
    have HB := Lib.hid HBn.out; clear HBn
    have Ra := Lib.hid Ran.out; clear Ran
    have Rb := Lib.hid Rbn.out; clear Rbn
    have Rc := Lib.hid Rcn.out; clear Rcn
    obtain ⟨s9, hs9⟩ : ∃ s : UInt64, s = (udot xs ys) := ⟨_, rfl⟩
    rw [← hs9]
    have Hs9 := Lib.hid hs9; clear hs9
    go_wp2_with fail
    refine (dot_any Ab Aa cb ca n n ys xs w13 Rb.out Ra.out Eb.out Ea.out (by omega)).mono ?_
    rintro e w14 ⟨rfl, hb⟩
    have HBn : Hid (Below w.heap.size w w14) := chain HB.out hb
    have Ran := Lib.hid (Ra.out.below hb); clear Ra
    have Rbn := Lib.hid (Rb.out.below hb); clear Rb
    have Rcn := Lib.hid (Rc.out.below hb); clear Rc
    clear HB hb
    have HB := Lib.hid HBn.out; clear HBn
    have Ra := Lib.hid Ran.out; clear Ran
    have Rb := Lib.hid Rbn.out; clear Rbn
    have Rc := Lib.hid Rcn.out; clear Rcn
    obtain ⟨t1, ht1⟩ : ∃ s : UInt64, s = (udot ys xs) := ⟨_, rfl⟩
    rw [← ht1]
    have Ht1 := Lib.hid ht1; clear ht1
    obtain rfl : s9 = t1 := by rw [Hs9.out, Ht1.out]; exact dot_comm xs ys
    clear Hs9 Ht1
    go_wp2_with fail
    go_ret
    exact ⟨rfl, HB.out⟩

set_option maxHeartbeats 400000 in
theorem dot_great (Aa Ab Ac : Option Addr) (ca cb cc na nb nc n : Nat) (k : UInt64) (w : World) (hn : 3000 < n) (hc : (n = na ∧ n ≤ nb ∧ n ≤ nc) ∨ (n = nb ∧ n < na ∧ n ≤ nc) ∨ (n = nc ∧ n < na ∧ n < nb)) :
    Calls Try.prog 6 #[.slice Aa na ca, .slice Ab nb cb, .slice Ac nc cc, .int .u64 (uz k)] w fun e w' => e = .returned (.bool true) ∧ Below w.heap.size w w' := by
  have hg : decide (3000 < (n : Int)) = true := decide_eq_true (by omega)
  rcases hc with ⟨h1, h2, h3⟩ | ⟨h1, h2, h3⟩ | ⟨h1, h2, h3⟩
  all_goals
    subst h1
    go_enter Try.func6, Try.ntmps6
    go_wp2_with fail
    refine (head_any w).mono ?_
    rintro e w1 ⟨rfl, hb⟩
    have HB := Lib.hid hb; clear hb
    go_wp2_with fail
    go_ret
    exact ⟨rfl, HB.out⟩

theorem dot_walk (Aa : Option Addr) (ca na : Nat) (xs : List UInt64) (Ab : Option Addr) (cb nb : Nat) (ys : List UInt64) (Ac : Option Addr) (cc nc : Nat) (zs : List UInt64) (k : UInt64) (w : World)
    (ra : Rd w Aa xs) (ea : na = xs.length) (fa : na ≤ ca) (rb : Rd w Ab ys) (eb : nb = ys.length) (fb : nb ≤ cb) (rc : Rd w Ac zs) (ec : nc = zs.length) (fc : nc ≤ cc) :
    Calls Try.prog 6 #[.slice Aa na ca, .slice Ab nb cb, .slice Ac nc cc, .int .u64 (uz k)] w fun e w' => e = .returned (.bool true) ∧ Below w.heap.size w w' := by
  obtain ⟨n, hc⟩ : ∃ n, (n = na ∧ n ≤ nb ∧ n ≤ nc) ∨ (n = nb ∧ n < na ∧ n ≤ nc) ∨ (n = nc ∧ n < na ∧ n < nb) := ⟨min na (min nb nc), by omega⟩
  by_cases hn : 3000 < n
  · exact dot_great Aa Ab Ac ca cb cc na nb nc n k w hn hc
  · exact dot_small Aa Ab Ac ca cb cc na nb nc n (xs.take n) (ys.take n) (zs.take n) k w (ra.take n) (rb.take n) (rc.take n) (by simp; omega) (by simp; omega) (by simp; omega) (by omega) (by omega) (by omega) (by omega) hc

end Go.Proofs.Ytbhmjmfappfjkaa
