/-
  What RingTells answers: true, whatever rows and number it is asked.
-/
import Derived.Test.YtbhmjmfappfjkaaLaw
import Derived.Test.YtbhmjmfappfjkaaInv2
import Derived.Test.YtbhmjmfappfjkaaRef3
namespace Go.Proofs.Ytbhmjmfappfjkaa
open Go.RowKit

set_option maxHeartbeats 2000000 in
set_option maxRecDepth 100000 in
theorem tells_small (Aa Ab : Option Addr) (ca cb na nb : Nat) (xs ys : List UInt64) (k : UInt64) (x : Int) (is : Bool) (w : World) (ra : Rd w Aa xs) (rb : Rd w Ab ys) (ea : na = xs.length) (eb : nb = ys.length)
    (La : na ≤ 3000) (Lb : nb ≤ 3000)
    (i1 : ∀ w, Calls Try.prog 12 #[.int .u64 (uz k)] w fun e w' => e = .returned (.tuple #[.int .u64 x, .bool is]) ∧ w = w')
    (i2 : ∀ w, Calls Try.prog 13 #[.int .u64 (uz k)] w fun e w' => e = .returned (.tuple #[.int .u64 x, .bool is]) ∧ w = w') :
    Calls Try.prog 3 #[.slice Aa na ca, .slice Ab nb cb, .int .u64 (uz k)] w fun e w' => e = .returned (.bool true) ∧ Below w.heap.size w w' := by
  have I1 := Lib.hid i1; clear i1
  have I2 := Lib.hid i2; clear i2
  have HB : Hid (Below w.heap.size w w) := Below.refl _ _
  have Ra := Lib.hid ra; clear ra
  have Ea := Lib.hid ea; clear ea
  have Rb := Lib.hid rb; clear rb
  have Eb := Lib.hid eb; clear eb
  go_enter Try.func3, Try.ntmps3
  go_wp2_with fail
  refine (head_any w).mono ?_
  rintro e w1 ⟨rfl, hb⟩
  have HBn : Hid (Below w.heap.size w w1) := chain HB.out hb
  have Ran := Lib.hid (Ra.out.below hb); clear Ra
  have Rbn := Lib.hid (Rb.out.below hb); clear Rb
  clear HB hb
  have HB := Lib.hid HBn.out; clear HBn
  have Ra := Lib.hid Ran.out; clear Ran
  have Rb := Lib.hid Rbn.out; clear Rbn
  go_wp2_with fail
  refine (great_any Aa Ab ca cb na nb w1 La Lb).mono ?_
  rintro e w' ⟨rfl, rfl⟩
  go_wp2_with fail
  refine (I1.out _).mono ?_
  rintro e w' ⟨rfl, rfl⟩
  go_wp2_with fail
  refine (I2.out _).mono ?_
  rintro e w' ⟨rfl, rfl⟩
  go_wp2_with fail
  refine (add_any Aa Ab ca cb na nb xs ys w1 Ra.out Rb.out Ea.out Eb.out (by omega)).mono ?_
  rintro e w2 ⟨Aadd, cadd, nadd, hn, rfl, hr, hb⟩
  have Ladd : nadd ≤ 3000 := by rw [List.length_zipWith] at hn; have h1 := Ea.out; omega
  have Eadd := Lib.hid hn; clear hn
  have HBn : Hid (Below w.heap.size w w2) := chain HB.out hb
  have Ran := Lib.hid (Ra.out.below hb); clear Ra
  have Rbn := Lib.hid (Rb.out.below hb); clear Rb
  clear HB hb
  have HB := Lib.hid HBn.out; clear HBn
  have Ra := Lib.hid Ran.out; clear Ran
  have Rb := Lib.hid Rbn.out; clear Rbn
  have Radd := Lib.hid hr; clear hr
  go_wp2_with fail
  refine (radd_any Aa Ab ca cb na nb xs ys w2 Ra.out Rb.out Ea.out Eb.out (by omega)).mono ?_
  rintro e w3 ⟨Aradd, cradd, nradd, hn, rfl, hr, hb⟩
  have Lradd : nradd ≤ 3000 := by rw [List.length_zipWith] at hn; have h1 := Ea.out; omega
  have Eradd := Lib.hid hn; clear hn
  have HBn : Hid (Below w.heap.size w w3) := chain HB.out hb
  have Ran := Lib.hid (Ra.out.below hb); clear Ra
  have Rbn := Lib.hid (Rb.out.below hb); clear Rb
  have Raddn := Lib.hid (Radd.out.below hb); clear Radd
  clear HB hb
  have HB := Lib.hid HBn.out; clear HBn
  have Ra := Lib.hid Ran.out; clear Ran
  have Rb := Lib.hid Rbn.out; clear Rbn
  have Radd := Lib.hid Raddn.out; clear Raddn
  have Rradd := Lib.hid hr; clear hr
  go_wp2_with fail
  refine (same_any Aadd Aradd cadd cradd nadd nradd (List.zipWith (· + ·) xs ys) (List.zipWith (· + ·) xs ys) w3 Radd.out Rradd.out Eadd.out Eradd.out (by omega) rfl).mono ?_
  rintro e w4 ⟨rfl, hb⟩
  have HBn : Hid (Below w.heap.size w w4) := chain HB.out hb
  have Ran := Lib.hid (Ra.out.below hb); clear Ra
  have Rbn := Lib.hid (Rb.out.below hb); clear Rb
  have Raddn := Lib.hid (Radd.out.below hb); clear Radd
  have Rraddn := Lib.hid (Rradd.out.below hb); clear Rradd
  clear HB hb
  have HB := Lib.hid HBn.out; clear HBn
  have Ra := Lib.hid Ran.out; clear Ran
  have Rb := Lib.hid Rbn.out; clear Rbn
  have Radd := Lib.hid Raddn.out; clear Raddn
  have Rradd := Lib.hid Rraddn.out; clear Rraddn
  clear Radd Eadd Ladd
  clear Rradd Eradd Lradd
  go_wp2_with fail
  refine (sub_any Aa Ab ca cb na nb xs ys w4 Ra.out Rb.out Ea.out Eb.out (by omega)).mono ?_
  rintro e w5 ⟨Asub, csub, nsub, hn, rfl, hr, hb⟩
  have Lsub : nsub ≤ 3000 := by rw [List.length_zipWith] at hn; have h1 := Ea.out; omega
  have Esub := Lib.hid hn; clear hn
  have HBn : Hid (Below w.heap.size w w5) := chain HB.out hb
  have Ran := Lib.hid (Ra.out.below hb); clear Ra
  have Rbn := Lib.hid (Rb.out.below hb); clear Rb
  clear HB hb
  have HB := Lib.hid HBn.out; clear HBn
  have Ra := Lib.hid Ran.out; clear Ran
  have Rb := Lib.hid Rbn.out; clear Rbn
  have Rsub := Lib.hid hr; clear hr
  go_wp2_with fail
  refine (rsub_any Aa Ab ca cb na nb xs ys w5 Ra.out Rb.out Ea.out Eb.out (by omega)).mono ?_
  rintro e w6 ⟨Arsub, crsub, nrsub, hn, rfl, hr, hb⟩
  have Lrsub : nrsub ≤ 3000 := by rw [List.length_zipWith] at hn; have h1 := Ea.out; omega
  have Ersub := Lib.hid hn; clear hn
  have HBn : Hid (Below w.heap.size w w6) := chain HB.out hb
  have Ran := Lib.hid (Ra.out.below hb); clear Ra
  have Rbn := Lib.hid (Rb.out.below hb); clear Rb
  have Rsubn := Lib.hid (Rsub.out.below hb); clear Rsub
  clear HB hb
  have HB := Lib.hid HBn.out; clear HBn
  have Ra := Lib.hid Ran.out; clear Ran
  have Rb := Lib.hid Rbn.out; clear Rbn
  have Rsub := Lib.hid Rsubn.out; clear Rsubn
  have Rrsub := Lib.hid hr; clear hr
  go_wp2_with fail
  refine (same_any Asub Arsub csub crsub nsub nrsub (List.zipWith (· - ·) xs ys) (List.zipWith (· - ·) xs ys) w6 Rsub.out Rrsub.out Esub.out Ersub.out (by omega) rfl).mono ?_
  rintro e w7 ⟨rfl, hb⟩
  have HBn : Hid (Below w.heap.size w w7) := chain HB.out hb
  have Ran := Lib.hid (Ra.out.below hb); clear Ra
  have Rbn := Lib.hid (Rb.out.below hb); clear Rb
  have Rsubn := Lib.hid (Rsub.out.below hb); clear Rsub
  have Rrsubn := Lib.hid (Rrsub.out.below hb); clear Rrsub
  clear HB hb
  have HB := Lib.hid HBn.out; clear HBn
  have Ra := Lib.hid Ran.out; clear Ran
  have Rb := Lib.hid Rbn.out; clear Rbn
  have Rsub := Lib.hid Rsubn.out; clear Rsubn
  have Rrsub := Lib.hid Rrsubn.out; clear Rrsubn
  clear Rsub Esub Lsub
  clear Rrsub Ersub Lrsub
  go_wp2_with fail
  refine (mul_any Aa Ab ca cb na nb xs ys w7 Ra.out Rb.out Ea.out Eb.out (by omega)).mono ?_
  rintro e w8 ⟨Amul, cmul, nmul, hn, rfl, hr, hb⟩
  have Lmul : nmul ≤ 3000 := by rw [List.length_zipWith] at hn; have h1 := Ea.out; omega
  have Emul := Lib.hid hn; clear hn
  have HBn : Hid (Below w.heap.size w w8) := chain HB.out hb
  have Ran := Lib.hid (Ra.out.below hb); clear Ra
  have Rbn := Lib.hid (Rb.out.below hb); clear Rb
  clear HB hb
  have HB := Lib.hid HBn.out; clear HBn
  have Ra := Lib.hid Ran.out; clear Ran
  have Rb := Lib.hid Rbn.out; clear Rbn
  have Rmul := Lib.hid hr; clear hr
  go_wp2_with fail
  refine (rmul_any Aa Ab ca cb na nb xs ys w8 Ra.out Rb.out Ea.out Eb.out (by omega)).mono ?_
  rintro e w9 ⟨Armul, crmul, nrmul, hn, rfl, hr, hb⟩
  have Lrmul : nrmul ≤ 3000 := by rw [List.length_zipWith] at hn; have h1 := Ea.out; omega
  have Ermul := Lib.hid hn; clear hn
  have HBn : Hid (Below w.heap.size w w9) := chain HB.out hb
  have Ran := Lib.hid (Ra.out.below hb); clear Ra
  have Rbn := Lib.hid (Rb.out.below hb); clear Rb
  have Rmuln := Lib.hid (Rmul.out.below hb); clear Rmul
  clear HB hb
  have HB := Lib.hid HBn.out; clear HBn
  have Ra := Lib.hid Ran.out; clear Ran
  have Rb := Lib.hid Rbn.out; clear Rbn
  have Rmul := Lib.hid Rmuln.out; clear Rmuln
  have Rrmul := Lib.hid hr; clear hr
  go_wp2_with fail
  refine (same_any Amul Armul cmul crmul nmul nrmul (List.zipWith (· * ·) xs ys) (List.zipWith (· * ·) xs ys) w9 Rmul.out Rrmul.out Emul.out Ermul.out (by omega) rfl).mono ?_
  rintro e w10 ⟨rfl, hb⟩
  have HBn : Hid (Below w.heap.size w w10) := chain HB.out hb
  have Ran := Lib.hid (Ra.out.below hb); clear Ra
  have Rbn := Lib.hid (Rb.out.below hb); clear Rb
  have Rmuln := Lib.hid (Rmul.out.below hb); clear Rmul
  have Rrmuln := Lib.hid (Rrmul.out.below hb); clear Rrmul
  clear HB hb
  have HB := Lib.hid HBn.out; clear HBn
  have Ra := Lib.hid Ran.out; clear Ran
  have Rb := Lib.hid Rbn.out; clear Rbn
  have Rmul := Lib.hid Rmuln.out; clear Rmuln
  have Rrmul := Lib.hid Rrmuln.out; clear Rrmuln
  clear Rmul Emul Lmul
  clear Rrmul Ermul Lrmul
  go_wp2_with fail
  refine (scale_any k Aa ca na xs w10 Ra.out Ea.out (by omega)).mono ?_
  rintro e w11 ⟨Asc, csc, nsc, hn, rfl, hr, hb⟩
  have Lsc : nsc ≤ 3000 := by rw [List.length_map] at hn; have h1 := Ea.out; omega
  have Esc := Lib.hid hn; clear hn
  have HBn : Hid (Below w.heap.size w w11) := chain HB.out hb
  have Ran := Lib.hid (Ra.out.below hb); clear Ra
  have Rbn := Lib.hid (Rb.out.below hb); clear Rb
  clear HB hb
  have HB := Lib.hid HBn.out; clear HBn
  have Ra := Lib.hid Ran.out; clear Ran
  have Rb := Lib.hid Rbn.out; clear Rbn
  have Rsc := Lib.hid hr; clear hr
  go_wp2_with fail
  refine (rscale_any k Aa ca na xs w11 Ra.out Ea.out (by omega)).mono ?_
  rintro e w12 ⟨Arsc, crsc, nrsc, hn, rfl, hr, hb⟩
  have Lrsc : nrsc ≤ 3000 := by rw [List.length_map] at hn; have h1 := Ea.out; omega
  have Ersc := Lib.hid hn; clear hn
  have HBn : Hid (Below w.heap.size w w12) := chain HB.out hb
  have Ran := Lib.hid (Ra.out.below hb); clear Ra
  have Rbn := Lib.hid (Rb.out.below hb); clear Rb
  have Rscn := Lib.hid (Rsc.out.below hb); clear Rsc
  clear HB hb
  have HB := Lib.hid HBn.out; clear HBn
  have Ra := Lib.hid Ran.out; clear Ran
  have Rb := Lib.hid Rbn.out; clear Rbn
  have Rsc := Lib.hid Rscn.out; clear Rscn
  have Rrsc := Lib.hid hr; clear hr
  go_wp2_with fail
  refine (same_any Asc Arsc csc crsc nsc nrsc (xs.map (k * ·)) (xs.map (k * ·)) w12 Rsc.out Rrsc.out Esc.out Ersc.out (by omega) rfl).mono ?_
  rintro e w13 ⟨rfl, hb⟩
  have HBn : Hid (Below w.heap.size w w13) := chain HB.out hb
  have Ran := Lib.hid (Ra.out.below hb); clear Ra
  have Rbn := Lib.hid (Rb.out.below hb); clear Rb
  have Rscn := Lib.hid (Rsc.out.below hb); clear Rsc
  have Rrscn := Lib.hid (Rrsc.out.below hb); clear Rrsc
  clear HB hb
  have HB := Lib.hid HBn.out; clear HBn
  have Ra := Lib.hid Ran.out; clear Ran
  have Rb := Lib.hid Rbn.out; clear Rbn
  have Rsc := Lib.hid Rscn.out; clear Rscn
  have Rrsc := Lib.hid Rrscn.out; clear Rrscn
  clear Rsc Esc Lsc
  clear Rrsc Ersc Lrsc
  go_wp2_with fail
  refine (sum_any Aa ca na xs w13 Ra.out Ea.out (by omega)).mono ?_
  rintro e w' ⟨rfl, rfl⟩
  obtain ⟨s1, hs1⟩ : ∃ s : UInt64, s = (usum xs) := ⟨_, rfl⟩
  rw [← hs1]
  have Hs1 := Lib.hid hs1; clear hs1
  go_wp2_with fail
  refine (rsum_any Aa ca na xs w13 Ra.out Ea.out (by omega)).mono ?_
  rintro e w' ⟨rfl, rfl⟩
  obtain ⟨s2, hs2⟩ : ∃ s : UInt64, s = (usum xs) := ⟨_, rfl⟩
  rw [← hs2]
  have Hs2 := Lib.hid hs2; clear hs2
  obtain rfl : s1 = s2 := by rw [Hs1.out, Hs2.out]
  clear Hs1 Hs2
  go_wp2_with fail
  refine (dot_any Aa Ab ca cb na nb xs ys w13 Ra.out Rb.out Ea.out Eb.out (by omega)).mono ?_
  rintro e w14 ⟨rfl, hb⟩
  have HBn : Hid (Below w.heap.size w w14) := chain HB.out hb
  have Ran := Lib.hid (Ra.out.below hb); clear Ra
  have Rbn := Lib.hid (Rb.out.below hb); clear Rb
  clear HB hb
  have HB := Lib.hid HBn.out; clear HBn
  have Ra := Lib.hid Ran.out; clear Ran
  have Rb := Lib.hid Rbn.out; clear Rbn
  obtain ⟨s3, hs3⟩ : ∃ s : UInt64, s = (udot xs ys) := ⟨_, rfl⟩
  rw [← hs3]
  have Hs3 := Lib.hid hs3; clear hs3
  go_wp2_with fail
  refine (rdot_any Aa Ab ca cb na nb xs ys w14 Ra.out Rb.out Ea.out Eb.out (by omega)).mono ?_
  rintro e w15 ⟨rfl, hb⟩
  have HBn : Hid (Below w.heap.size w w15) := chain HB.out hb
  have Ran := Lib.hid (Ra.out.below hb); clear Ra
  have Rbn := Lib.hid (Rb.out.below hb); clear Rb
  clear HB hb
  have HB := Lib.hid HBn.out; clear HBn
  have Ra := Lib.hid Ran.out; clear Ran
  have Rb := Lib.hid Rbn.out; clear Rbn
  obtain ⟨s4, hs4⟩ : ∃ s : UInt64, s = (udot xs ys) := ⟨_, rfl⟩
  rw [← hs4]
  have Hs4 := Lib.hid hs4; clear hs4
  obtain rfl : s3 = s4 := by rw [Hs3.out, Hs4.out]
  clear Hs3 Hs4
  go_wp2_with fail
  go_ret
  exact ⟨rfl, HB.out⟩

set_option maxHeartbeats 400000 in
theorem tells_great (Aa Ab : Option Addr) (ca cb na nb : Nat) (k : UInt64) (w : World) (h : 3000 < na ∨ 3000 < nb) :
    Calls Try.prog 3 #[.slice Aa na ca, .slice Ab nb cb, .int .u64 (uz k)] w fun e w' => e = .returned (.bool true) ∧ Below w.heap.size w w' := by
  have HG := Lib.hid (fun w => great_not Aa Ab ca cb na nb w h); clear h
  go_enter Try.func3, Try.ntmps3
  go_wp2_with fail
  refine (head_any w).mono ?_
  rintro e w1 ⟨rfl, hb⟩
  have HB := Lib.hid hb; clear hb
  go_wp2_with fail
  refine (HG.out w1).mono ?_
  rintro e w' ⟨rfl, rfl⟩
  go_wp2_with fail
  go_ret
  exact ⟨rfl, HB.out⟩

theorem tells_walk (Aa : Option Addr) (ca na : Nat) (xs : List UInt64) (Ab : Option Addr) (cb nb : Nat) (ys : List UInt64) (k : UInt64) (w : World) (ra : Rd w Aa xs) (ea : na = xs.length) (_ : na ≤ ca) (rb : Rd w Ab ys) (eb : nb = ys.length) (_ : nb ≤ cb) :
    Calls Try.prog 3 #[.slice Aa na ca, .slice Ab nb cb, .int .u64 (uz k)] w fun e w' => e = .returned (.bool true) ∧ Below w.heap.size w w' := by
  by_cases h : 3000 < na ∨ 3000 < nb
  · exact tells_great Aa Ab ca cb na nb k w h
  · rcases (by omega : uz k % 2 = 0 ∨ uz k % 2 = 1) with hk | hk
    · exact tells_small Aa Ab ca cb na nb xs ys k 0 false w ra rb ea eb (by omega) (by omega) (fun w => inverse_even k w hk) (fun w => rinverse_even k w hk)
    · exact tells_small Aa Ab ca cb na nb xs ys k (uz (uinv k)) true w ra rb ea eb (by omega) (by omega) (fun w => inverse_odd k w hk) (fun w => rinverse_odd k w hk)

end Go.Proofs.Ytbhmjmfappfjkaa
