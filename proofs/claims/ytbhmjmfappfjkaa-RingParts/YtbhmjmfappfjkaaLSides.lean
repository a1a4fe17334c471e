/-
  What RingSides answers: true, whatever two rows it is asked.
-/
import Derived.Test.YtbhmjmfappfjkaaLSum
namespace Go.Proofs.Ytbhmjmfappfjkaa
open Go.RowKit

theorem scale_top (A : Option Addr) (cA na : Nat) (xs : List UInt64) (w : World) (hx : Rd w A xs) (lx : na = xs.length) (hn : na ≤ 1000000) :
    Calls Try.prog 21 #[.int .u64 18446744073709551615, .slice A na cA] w (Row (xs.map (18446744073709551615 * ·)) w) := scale_any 18446744073709551615 A cA na xs w hx lx hn
theorem scale_zero (A : Option Addr) (cA na : Nat) (xs : List UInt64) (w : World) (hx : Rd w A xs) (lx : na = xs.length) (hn : na ≤ 1000000) :
    Calls Try.prog 21 #[.int .u64 0, .slice A na cA] w (Row (xs.map (0 * ·)) w) := scale_any 0 A cA na xs w hx lx hn

theorem sides_sum (xs ys : List UInt64) (n : Nat) (hx : xs.length = n) (hy : ys.length = n) : usum (List.zipWith (· + ·) (List.zipWith (· - ·) xs ys) (List.zipWith (· - ·) ys xs)) = 0 := by
  induction n generalizing xs ys with
  | zero =>
    rw [List.length_eq_zero_iff] at hx hy
    subst hx hy
    simp [usum_nil]
  | succ n ih =>
    match xs, ys, hx, hy with
    | x :: xs, y :: ys, hx, hy =>
      have h := ih xs ys (by simpa using hx) (by simpa using hy)
      simp only [List.zipWith_cons_cons, usum_cons] at h ⊢
      grind

theorem sides_neg (xs ys : List UInt64) : (List.zipWith (· - ·) xs ys).map (18446744073709551615 * ·) = List.zipWith (· - ·) ys xs := by
  apply List.ext_getElem
  · simp [Nat.min_comm]
  · intro i h1 h2
    simp
    grind
theorem sides_nought (xs ys : List UInt64) (n : Nat) (hx : xs.length = n) (hy : ys.length = n) : List.zipWith (· + ·) (List.zipWith (· - ·) xs ys) (List.zipWith (· - ·) ys xs) = xs.map (0 * ·) := by
  apply List.ext_getElem
  · simp [hx, hy]
  · intro i h1 h2
    simp
    grind
theorem sum_sub (xs ys : List UInt64) (n : Nat) (hx : xs.length = n) (hy : ys.length = n) : usum (List.zipWith (· - ·) xs ys) = usum xs - usum ys := by
  induction n generalizing xs ys with
  | zero =>
    rw [List.length_eq_zero_iff] at hx hy
    subst hx hy
    simp [usum_nil]
  | succ n ih =>
    match xs, ys, hx, hy with
    | x :: xs, y :: ys, hx, hy =>
      have h := ih xs ys (by simpa using hx) (by simpa using hy)
      simp only [List.zipWith_cons_cons, usum_cons] at h ⊢
      grind

theorem sides_dot (xs ys : List UInt64) (n : Nat) (hx : xs.length = n) (hy : ys.length = n) : udot (List.zipWith (· - ·) xs ys) (List.zipWith (· - ·) xs ys) = udot (List.zipWith (· - ·) ys xs) (List.zipWith (· - ·) ys xs) := by
  induction n generalizing xs ys with
  | zero =>
    rw [List.length_eq_zero_iff] at hx hy
    subst hx hy
    rfl
  | succ n ih =>
    match xs, ys, hx, hy with
    | x :: xs, y :: ys, hx, hy =>
      have h := ih xs ys (by simpa using hx) (by simpa using hy)
      simp only [List.zipWith_cons_cons, udot_cons] at h ⊢
      grind

set_option maxHeartbeats 4000000 in
set_option maxRecDepth 100000 in
theorem sides_small (Aa Ab : Option Addr) (ca cb na nb n : Nat) (xs ys : List UInt64) (w : World) (ra : Rd w Aa xs) (rb : Rd w Ab ys) (ea : n = xs.length) (eb : n = ys.length)
    (La : n ≤ 3000) (fa : n ≤ ca) (fb : n ≤ cb) (hc : (n = na ∧ n ≤ nb) ∨ (n = nb ∧ n < na)) :
    Calls Try.prog 9 #[.slice Aa na ca, .slice Ab nb cb] w fun e w' => e = .returned (.bool true) ∧ Below w.heap.size w w' := by
  have HB : Hid (Below w.heap.size w w) := Below.refl _ _
  have Ra := Lib.hid ra; clear ra
  have Rb := Lib.hid rb; clear rb
  have Ea := Lib.hid ea; clear ea
  have Eb := Lib.hid eb; clear eb
  have Lb := La
  have hg : decide (3000 < (n : Int)) = false := decide_eq_false (by omega)
  rcases hc with ⟨h1, h2⟩ | ⟨h1, h2⟩
  all_goals
    subst h1
    go_enter Try.func9, Try.ntmps9
    go_wp2_with fail
    refine (head_any w).mono ?_
    rintro e w1 ⟨rfl, hb⟩
    have HBn : Hid (Below w.heap.size w w1) := chain HB.out hb
    have Ran := Lib.hid (Ra.out.below hb); clear Ra
    have Rbn := Lib.hid (Rb.out.below hb); clear Rb
    clear HB hb
    have HB := Lib.hid HBn.out; clear HBn
    have Ra := Lib.hid Ran.out; clear Ran
    have Rb := Lib.hid Rbn.out; clear Rbn
    go_wp2_with fail
    refine (sub_any Aa Ab ca cb n n xs ys w1 Ra.out Rb.out Ea.out Eb.out (by omega)).mono ?_
    rintro e w2 ⟨Ax, cx, nx, hn, rfl, hr, hb⟩
    have Lx : nx ≤ 3000 := by rw [List.length_zipWith] at hn; have h1 := Ea.out; omega
    have Ex := Lib.hid hn; clear hn
    have HBn : Hid (Below w.heap.size w w2) := chain HB.out hb
    have Ran := Lib.hid (Ra.out.below hb); clear Ra
    have Rbn := Lib.hid (Rb.out.below hb); clear Rb
    clear HB hb
    have HB := Lib.hid HBn.out; clear HBn
    have Ra := Lib.hid Ran.out; clear Ran
    have Rb := Lib.hid Rbn.out; clear Rbn
    have Rx := Lib.hid hr; clear hr
    go_wp2_with fail
    refine (sub_any Ab Aa cb ca n n ys xs w2 Rb.out Ra.out Eb.out Ea.out (by omega)).mono ?_
    rintro e w3 ⟨Ay, cy, ny, hn, rfl, hr, hb⟩
    have Ly : ny ≤ 3000 := by rw [List.length_zipWith] at hn; have h1 := Eb.out; omega
    have Ey := Lib.hid hn; clear hn
    have HBn : Hid (Below w.heap.size w w3) := chain HB.out hb
    have Ran := Lib.hid (Ra.out.below hb); clear Ra
    have Rbn := Lib.hid (Rb.out.below hb); clear Rb
    have Rxn := Lib.hid (Rx.out.below hb); clear Rx
    clear HB hb
    have HB := Lib.hid HBn.out; clear HBn
    have Ra := Lib.hid Ran.out; clear Ran
    have Rb := Lib.hid Rbn.out; clear Rbn
    have Rx := Lib.hid Rxn.out; clear Rxn
    have Ry := Lib.hid hr; clear hr
    go_wp2_with fail
    refine (add_any Ax Ay cx cy nx ny (List.zipWith (· - ·) xs ys) (List.zipWith (· - ·) ys xs) w3 Rx.out Ry.out Ex.out Ey.out (by omega)).mono ?_
    rintro e w4 ⟨Ap, cp, np, hn, rfl, hr, hb⟩
    have Lp : np ≤ 3000 := by rw [List.length_zipWith] at hn; have h1 := Ex.out; omega
    have Ep := Lib.hid hn; clear hn
    have HBn : Hid (Below w.heap.size w w4) := chain HB.out hb
    have Ran := Lib.hid (Ra.out.below hb); clear Ra
    have Rbn := Lib.hid (Rb.out.below hb); clear Rb
    have Rxn := Lib.hid (Rx.out.below hb); clear Rx
    have Ryn := Lib.hid (Ry.out.below hb); clear Ry
    clear HB hb
    have HB := Lib.hid HBn.out; clear HBn
    have Ra := Lib.hid Ran.out; clear Ran
    have Rb := Lib.hid Rbn.out; clear Rbn
    have Rx := Lib.hid Rxn.out; clear Rxn
    have Ry := Lib.hid Ryn.out; clear Ryn
    have Rp := Lib.hid hr; clear hr
    go_wp2_with fail
    refine (sum_any Ap cp np (List.zipWith (· + ·) (List.zipWith (· - ·) xs ys) (List.zipWith (· - ·) ys xs)) w4 Rp.out Ep.out (by omega)).mono ?_
    rintro e w' ⟨rfl, rfl⟩
    obtain ⟨s1, hs1⟩ : ∃ s : UInt64, s = (usum (List.zipWith (· + ·) (List.zipWith (· - ·) xs ys) (List.zipWith (· - ·) ys xs))) := ⟨_, rfl⟩
    rw [← hs1]
    have Hs1 := Lib.hid hs1; clear hs1
    have f1 : (uz s1 == 0) = true := by rw [show (0 : Int) = uz 0 from rfl, uz_beq, beq_iff_eq, Hs1.out]; exact sides_sum xs ys n Ea.out.symm Eb.out.symm
    clear Rp Ep Lp
    clear Hs1
    go_wp2_with fail
    clear f1
    refine (scale_top Ax cx nx (List.zipWith (· - ·) xs ys) w4 Rx.out Ex.out (by omega)).mono ?_
    rintro e w5 ⟨Aq, cq, nq, hn, rfl, hr, hb⟩
    have Lq : nq ≤ 3000 := by rw [List.length_map] at hn; have h1 := Ex.out; omega
    have Eq := Lib.hid hn; clear hn
    have HBn : Hid (Below w.heap.size w w5) := chain HB.out hb
    have Ran := Lib.hid (Ra.out.below hb); clear Ra
    have Rbn := Lib.hid (Rb.out.below hb); clear Rb
    have Rxn := Lib.hid (Rx.out.below hb); clear Rx
    have Ryn := Lib.hid (Ry.out.below hb); clear Ry
    clear HB hb
    have HB := Lib.hid HBn.out; clear HBn
    have Ra := Lib.hid Ran.out; clear Ran
    have Rb := Lib.hid Rbn.out; clear Rbn
    have Rx := Lib.hid Rxn.out; clear Rxn
    have Ry := Lib.hid Ryn.out; clear Ryn
    have Rq := Lib.hid hr; clear hr
    go_wp2_with fail
    refine (same_any Aq Ay cq cy nq ny ((List.zipWith (· - ·) xs ys).map (18446744073709551615 * ·)) (List.zipWith (· - ·) ys xs) w5 Rq.out Ry.out Eq.out Ey.out (by omega) (sides_neg xs ys)).mono ?_
    rintro e w6 ⟨rfl, hb⟩
    have HBn : Hid (Below w.heap.size w w6) := chain HB.out hb
    have Ran := Lib.hid (Ra.out.below hb); clear Ra
    have Rbn := Lib.hid (Rb.out.below hb); clear Rb
    have Rxn := Lib.hid (Rx.out.below hb); clear Rx
    have Ryn := Lib.hid (Ry.out.below hb); clear Ry
    have Rqn := Lib.hid (Rq.out.below hb); clear Rq
    clear HB hb
    have HB := Lib.hid HBn.out; clear HBn
    have Ra := Lib.hid Ran.out; clear Ran
    have Rb := Lib.hid Rbn.out; clear Rbn
    have Rx := Lib.hid Rxn.out; clear Rxn
    have Ry := Lib.hid Ryn.out; clear Ryn
    have Rq := Lib.hid Rqn.out; clear Rqn
    clear Rq Eq Lq
    go_wp2_with fail
    refine (add_any Ax Ay cx cy nx ny (List.zipWith (· - ·) xs ys) (List.zipWith (· - ·) ys xs) w6 Rx.out Ry.out Ex.out Ey.out (by omega)).mono ?_
    rintro e w7 ⟨Ap, cp, np, hn, rfl, hr, hb⟩
    have Lp : np ≤ 3000 := by rw [List.length_zipWith] at hn; have h1 := Ex.out; omega
    have Ep := Lib.hid hn; clear hn
    have HBn : Hid (Below w.heap.size w w7) := chain HB.out hb
    have Ran := Lib.hid (Ra.out.below hb); clear Ra
    have Rbn := Lib.hid (Rb.out.below hb); clear Rb
    have Rxn := Lib.hid (Rx.out.below hb); clear Rx
    have Ryn := Lib.hid (Ry.out.below hb); clear Ry
    clear HB hb
    have HB := Lib.hid HBn.out; clear HBn
    have Ra := Lib.hid Ran.out; clear Ran
    have Rb := Lib.hid Rbn.out; clear Rbn
    have Rx := Lib.hid Rxn.out; clear Rxn
    have Ry := Lib.hid Ryn.out; clear Ryn
    have Rp := Lib.hid hr; clear hr
    go_wp2_with fail
    refine (scale_zero Aa ca n xs w7 Ra.out Ea.out (by omega)).mono ?_
    rintro e w8 ⟨Aq, cq, nq, hn, rfl, hr, hb⟩
    have Lq : nq ≤ 3000 := by rw [List.length_map] at hn; have h1 := Ea.out; omega
    have Eq := Lib.hid hn; clear hn
    have HBn : Hid (Below w.heap.size w w8) := chain HB.out hb
    have Ran := Lib.hid (Ra.out.below hb); clear Ra
    have Rbn := Lib.hid (Rb.out.below hb); clear Rb
    have Rxn := Lib.hid (Rx.out.below hb); clear Rx
    have Ryn := Lib.hid (Ry.out.below hb); clear Ry
    have Rpn := Lib.hid (Rp.out.below hb); clear Rp
    clear HB hb
    have HB := Lib.hid HBn.out; clear HBn
    have Ra := Lib.hid Ran.out; clear Ran
    have Rb := Lib.hid Rbn.out; clear Rbn
    have Rx := Lib.hid Rxn.out; clear Rxn
    have Ry := Lib.hid Ryn.out; clear Ryn
    have Rp := Lib.hid Rpn.out; clear Rpn
    have Rq := Lib.hid hr; clear hr
    go_wp2_with fail
    refine (same_any Ap Aq cp cq np nq (List.zipWith (· + ·) (List.zipWith (· - ·) xs ys) (List.zipWith (· - ·) ys xs)) (xs.map (0 * ·)) w8 Rp.out Rq.out Ep.out Eq.out (by omega) (sides_nought xs ys n Ea.out.symm Eb.out.symm)).mono ?_
    rintro e w9 ⟨rfl, hb⟩
    have HBn : Hid (Below w.heap.size w w9) := chain HB.out hb
    have Ran := Lib.hid (Ra.out.below hb); clear Ra
    have Rbn := Lib.hid (Rb.out.below hb); clear Rb
    have Rxn := Lib.hid (Rx.out.below hb); clear Rx
    have Ryn := Lib.hid (Ry.out.below hb); clear Ry
    have Rpn := Lib.hid (Rp.out.below hb); clear Rp
    have Rqn := Lib.hid (Rq.out.below hb); clear Rq
    clear HB hb
    have HB := Lib.hid HBn.out; clear HBn
    have Ra := Lib.hid Ran.out; clear Ran
    have Rb := Lib.hid Rbn.out; clear Rbn
    have Rx := Lib.hid Rxn.out; clear Rxn
    have Ry := Lib.hid Ryn.out; clear Ryn
    have Rp := Lib.hid Rpn.out; clear Rpn
    have Rq := Lib.hid Rqn.out; clear Rqn
    clear Rp Ep Lp
    clear Rq Eq Lq
    go_wp2_with fail
    refine (sum_any Ax cx nx (List.zipWith (· - ·) xs ys) w9 Rx.out Ex.out (by omega)).mono ?_
    rintro e w' ⟨rfl, rfl⟩
    obtain ⟨s2, hs2⟩ : ∃ s : UInt64, s = (usum (List.zipWith (· - ·) xs ys)) := ⟨_, rfl⟩
    rw [← hs2]
    have Hs2 := Lib.hid hs2; clear hs2
    go_wp2_with fail
    refine (sum_any Aa ca n xs w9 Ra.out Ea.out (by omega)).mono ?_
    rintro e w' ⟨rfl, rfl⟩
    obtain ⟨s3, hs3⟩ : ∃ s : UInt64, s = (usum xs) := ⟨_, rfl⟩
    rw [← hs3]
    have Hs3 := Lib.hid hs3; clear hs3
    go_wp2_with fail
    refine (sum_any Ab cb n ys w9 Rb.out Eb.out (by omega)).mono ?_
    rintro e w' ⟨rfl, rfl⟩
    obtain ⟨s4, hs4⟩ : ∃ s : UInt64, s = (usum ys) := ⟨_, rfl⟩
    rw [← hs4]
    have Hs4 := Lib.hid hs4; clear hs4
    have f2 : (uz s2 == IntKind.u64.wrap (uz s3 - uz s4)) = true := by rw [uz_sub, uz_beq, beq_iff_eq, Hs2.out, Hs3.out, Hs4.out]; exact sum_sub xs ys n Ea.out.symm Eb.out.symm
    clear Hs2 Hs3 Hs4
    go_wp2_with fail
    clear f2
    refine (dot_any Ax Ax cx cx nx nx (List.zipWith (· - ·) xs ys) (List.zipWith (· - ·) xs ys) w9 Rx.out Rx.out Ex.out Ex.out (by omega)).mono ?_
    rintro e w10 ⟨rfl, hb⟩
    have HBn : Hid (Below w.heap.size w w10) := chain HB.out hb
    have Ran := Lib.hid (Ra.out.below hb); clear Ra
    have Rbn := Lib.hid (Rb.out.below hb); clear Rb
    have Rxn := Lib.hid (Rx.out.below hb); clear Rx
    have Ryn := Lib.hid (Ry.out.below hb); clear Ry
    clear HB hb
    have HB := Lib.hid HBn.out; clear HBn
    have Ra := Lib.hid Ran.out; clear Ran
    have Rb := Lib.hid Rbn.out; clear Rbn
    have Rx := Lib.hid Rxn.out; clear Rxn
    have Ry := Lib.hid Ryn.out; clear Ryn
    obtain ⟨s5, hs5⟩ : ∃ s : UInt64, s = (udot (List.zipWith (· - ·) xs ys) (List.zipWith (· - ·) xs ys)) := ⟨_, rfl⟩
    rw [← hs5]
    have Hs5 := Lib.hid hs5; clear hs5
    go_wp2_with fail
    refine (dot_any Ay Ay cy cy ny ny (List.zipWith (· - ·) ys xs) (List.zipWith (· - ·) ys xs) w10 Ry.out Ry.out Ey.out Ey.out (by omega)).mono ?_
    rintro e w11 ⟨rfl, hb⟩
    have HBn : Hid (Below w.heap.size w w11) := chain HB.out hb
    have Ran := Lib.hid (Ra.out.below hb); clear Ra
    have Rbn := Lib.hid (Rb.out.below hb); clear Rb
    have Rxn := Lib.hid (Rx.out.below hb); clear Rx
    have Ryn := Lib.hid (Ry.out.below hb); clear Ry
    clear HB hb
    have HB := Lib.hid HBn.out; clear HBn
    have Ra := Lib.hid Ran.out; clear Ran
    have Rb := Lib.hid Rbn.out; clear Rbn
    have Rx := Lib.hid Rxn.out; clear Rxn
    have Ry := Lib.hid Ryn.out; clear Ryn
    obtain ⟨s6, hs6⟩ : ∃ s : UInt64, s = (udot (List.zipWith (· - ·) ys xs) (List.zipWith (· - ·) ys xs)) := ⟨_, rfl⟩
    rw [← hs6]
    have Hs6 := Lib.hid hs6; clear hs6
    obtain rfl : s5 = s6 := by rw [Hs5.out, Hs6.out]; exact sides_dot xs ys n Ea.out.symm Eb.out.symm
    clear Hs5 Hs6
    go_wp2_with fail
    go_ret
    exact ⟨rfl, HB.out⟩

set_option maxHeartbeats 400000 in
theorem sides_great (Aa Ab : Option Addr) (ca cb na nb n : Nat) (w : World) (hn : 3000 < n) (hc : (n = na ∧ n ≤ nb) ∨ (n = nb ∧ n < na)) :
    Calls Try.prog 9 #[.slice Aa na ca, .slice Ab nb cb] w fun e w' => e = .returned (.bool true) ∧ Below w.heap.size w w' := by
  have hg : decide (3000 < (n : Int)) = true := decide_eq_true (by omega)
  rcases hc with ⟨h1, h2⟩ | ⟨h1, h2⟩
  all_goals
    subst h1
    go_enter Try.func9, Try.ntmps9
    go_wp2_with fail
    refine (head_any w).mono ?_
    rintro e w1 ⟨rfl, hb⟩
    have HB := Lib.hid hb; clear hb
    go_wp2_with fail
    go_ret
    exact ⟨rfl, HB.out⟩

theorem sides_walk (Aa : Option Addr) (ca na : Nat) (xs : List UInt64) (Ab : Option Addr) (cb nb : Nat) (ys : List UInt64) (w : World)
    (ra : Rd w Aa xs) (ea : na = xs.length) (fa : na ≤ ca) (rb : Rd w Ab ys) (eb : nb = ys.length) (fb : nb ≤ cb) :
    Calls Try.prog 9 #[.slice Aa na ca, .slice Ab nb cb] w fun e w' => e = .returned (.bool true) ∧ Below w.heap.size w w' := by
  obtain ⟨n, hc⟩ : ∃ n, (n = na ∧ n ≤ nb) ∨ (n = nb ∧ n < na) := ⟨min na nb, by omega⟩
  by_cases hn : 3000 < n
  · exact sides_great Aa Ab ca cb na nb n w hn hc
  · exact sides_small Aa Ab ca cb na nb n (xs.take n) (ys.take n) w (ra.take n) (rb.take n) (by simp; omega) (by simp; omega) (by omega) (by omega) (by omega) hc

end Go.Proofs.Ytbhmjmfappfjkaa
