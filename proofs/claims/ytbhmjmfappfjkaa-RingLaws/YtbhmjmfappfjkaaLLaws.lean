/-
  What RingLaws answers: true, whatever three rows it is asked.
-/
import Derived.Test.YtbhmjmfappfjkaaLaw
namespace Go.Proofs.Ytbhmjmfappfjkaa
open Go.RowKit

theorem add_comm (xs ys : List UInt64) : List.zipWith (· + ·) xs ys = List.zipWith (· + ·) ys xs := List.zipWith_comm_of_comm (fun x y => UInt64.add_comm x y)
theorem mul_comm (xs ys : List UInt64) : List.zipWith (· * ·) xs ys = List.zipWith (· * ·) ys xs := List.zipWith_comm_of_comm (fun x y => UInt64.mul_comm x y)
theorem add_assoc (xs ys zs : List UInt64) : List.zipWith (· + ·) (List.zipWith (· + ·) xs ys) zs = List.zipWith (· + ·) xs (List.zipWith (· + ·) ys zs) := by
  apply List.ext_getElem
  · simp [Nat.min_assoc]
  · intro i h1 h2
    simp [UInt64.add_assoc]
theorem mul_assoc (xs ys zs : List UInt64) : List.zipWith (· * ·) (List.zipWith (· * ·) xs ys) zs = List.zipWith (· * ·) xs (List.zipWith (· * ·) ys zs) := by
  apply List.ext_getElem
  · simp [Nat.min_assoc]
  · intro i h1 h2
    simp [UInt64.mul_assoc]
theorem mul_over (xs ys zs : List UInt64) : List.zipWith (· * ·) xs (List.zipWith (· + ·) ys zs) = List.zipWith (· + ·) (List.zipWith (· * ·) xs ys) (List.zipWith (· * ·) xs zs) := by
  apply List.ext_getElem
  · simp; omega
  · intro i h1 h2
    simp [UInt64.mul_add]

set_option maxHeartbeats 2000000 in
set_option maxRecDepth 100000 in
theorem laws_small (Aa Ab Ac : Option Addr) (ca cb cc na nb nc : Nat) (xs ys zs : List UInt64) (w : World) (ra : Rd w Aa xs) (rb : Rd w Ab ys) (rc : Rd w Ac zs) (ea : na = xs.length) (eb : nb = ys.length) (ec : nc = zs.length)
    (La : na ≤ 3000) (Lb : nb ≤ 3000) (Lc : nc ≤ 3000) :
    Calls Try.prog 4 #[.slice Aa na ca, .slice Ab nb cb, .slice Ac nc cc] w fun e w' => e = .returned (.bool true) ∧ Below w.heap.size w w' := by
  have HB : Hid (Below w.heap.size w w) := Below.refl _ _
  have Ra := Lib.hid ra; clear ra
  have Ea := Lib.hid ea; clear ea
  have Rb := Lib.hid rb; clear rb
  have Eb := Lib.hid eb; clear eb
  have Rc := Lib.hid rc; clear rc
  have Ec := Lib.hid ec; clear ec
  have h3 : decide (3000 < (nc : Int)) = false := decide_eq_false (by omega)
  go_enter Try.func4, Try.ntmps4
  go_wp2_with fail
  refine (head_any w).mono ?_
  rintro e w1 ⟨rfl, hb⟩
  have HBn : Hid (Below w.heap.size w w1) := chain HB.out hb
  have Ran := Lib.hid (Ra.out.below hb); clear Ra
  have Rbn := Lib.hid (Rb.out.below hb); clear Rb
  have Rcn := Lib.hid (Rc.out.below hb); clear Rc
  clear HB hb
  have HB := Lib.hid HBn.out; clear HBn
  have Ra := Lib.hid Ran.out; clear Ran
  have Rb := Lib.hid Rbn.out; clear Rbn
  have Rc := Lib.hid Rcn.out; clear Rcn
  go_wp2_with fail
  refine (great_any Aa Ab ca cb na nb w1 La Lb).mono ?_
  rintro e w' ⟨rfl, rfl⟩
  go_wp2_with fail
  refine (add_any Aa Ab ca cb na nb xs ys w1 Ra.out Rb.out Ea.out Eb.out (by omega)).mono ?_
  rintro e w2 ⟨Aadd1, cadd1, nadd1, hn, rfl, hr, hb⟩
  have Ladd1 : nadd1 ≤ 3000 := by rw [List.length_zipWith] at hn; have h1 := Ea.out; omega
  have Eadd1 := Lib.hid hn; clear hn
  have HBn : Hid (Below w.heap.size w w2) := chain HB.out hb
  have Ran := Lib.hid (Ra.out.below hb); clear Ra
  have Rbn := Lib.hid (Rb.out.below hb); clear Rb
  have Rcn := Lib.hid (Rc.out.below hb); clear Rc
  clear HB hb
  have HB := Lib.hid HBn.out; clear HBn
  have Ra := Lib.hid Ran.out; clear Ran
  have Rb := Lib.hid Rbn.out; clear Rbn
  have Rc := Lib.hid Rcn.out; clear Rcn
  have Radd1 := Lib.hid hr; clear hr
  go_wp2_with fail
  refine (add_any Ab Aa cb ca nb na ys xs w2 Rb.out Ra.out Eb.out Ea.out (by omega)).mono ?_
  rintro e w3 ⟨Aadd2, cadd2, nadd2, hn, rfl, hr, hb⟩
  have Ladd2 : nadd2 ≤ 3000 := by rw [List.length_zipWith] at hn; have h1 := Eb.out; omega
  have Eadd2 := Lib.hid hn; clear hn
  have HBn : Hid (Below w.heap.size w w3) := chain HB.out hb
  have Ran := Lib.hid (Ra.out.below hb); clear Ra
  have Rbn := Lib.hid (Rb.out.below hb); clear Rb
  have Rcn := Lib.hid (Rc.out.below hb); clear Rc
  have Radd1n := Lib.hid (Radd1.out.below hb); clear Radd1
  clear HB hb
  have HB := Lib.hid HBn.out; clear HBn
  have Ra := Lib.hid Ran.out; clear Ran
  have Rb := Lib.hid Rbn.out; clear Rbn
  have Rc := Lib.hid Rcn.out; clear Rcn
  have Radd1 := Lib.hid Radd1n.out; clear Radd1n
  have Radd2 := Lib.hid hr; clear hr
  go_wp2_with fail
  refine (same_any Aadd1 Aadd2 cadd1 cadd2 nadd1 nadd2 (List.zipWith (· + ·) xs ys) (List.zipWith (· + ·) ys xs) w3 Radd1.out Radd2.out Eadd1.out Eadd2.out (by omega) (add_comm xs ys)).mono ?_
  rintro e w4 ⟨rfl, hb⟩
  have HBn : Hid (Below w.heap.size w w4) := chain HB.out hb
  have Ran := Lib.hid (Ra.out.below hb); clear Ra
  have Rbn := Lib.hid (Rb.out.below hb); clear Rb
  have Rcn := Lib.hid (Rc.out.below hb); clear Rc
  have Radd1n := Lib.hid (Radd1.out.below hb); clear Radd1
  have Radd2n := Lib.hid (Radd2.out.below hb); clear Radd2
  clear HB hb
  have HB := Lib.hid HBn.out; clear HBn
  have Ra := Lib.hid Ran.out; clear Ran
  have Rb := Lib.hid Rbn.out; clear Rbn
  have Rc := Lib.hid Rcn.out; clear Rcn
  have Radd1 := Lib.hid Radd1n.out; clear Radd1n
  have Radd2 := Lib.hid Radd2n.out; clear Radd2n
  clear Radd1 Eadd1 Ladd1
  clear Radd2 Eadd2 Ladd2
  go_wp2_with fail
  refine (mul_any Aa Ab ca cb na nb xs ys w4 Ra.out Rb.out Ea.out Eb.out (by omega)).mono ?_
  rintro e w5 ⟨Amul1, cmul1, nmul1, hn, rfl, hr, hb⟩
  have Lmul1 : nmul1 ≤ 3000 := by rw [List.length_zipWith] at hn; have h1 := Ea.out; omega
  have Emul1 := Lib.hid hn; clear hn
  have HBn : Hid (Below w.heap.size w w5) := chain HB.out hb
  have Ran := Lib.hid (Ra.out.below hb); clear Ra
  have Rbn := Lib.hid (Rb.out.below hb); clear Rb
  have Rcn := Lib.hid (Rc.out.below hb); clear Rc
  clear HB hb
  have HB := Lib.hid HBn.out; clear HBn
  have Ra := Lib.hid Ran.out; clear Ran
  have Rb := Lib.hid Rbn.out; clear Rbn
  have Rc := Lib.hid Rcn.out; clear Rcn
  have Rmul1 := Lib.hid hr; clear hr
  go_wp2_with fail
  refine (mul_any Ab Aa cb ca nb na ys xs w5 Rb.out Ra.out Eb.out Ea.out (by omega)).mono ?_
  rintro e w6 ⟨Amul2, cmul2, nmul2, hn, rfl, hr, hb⟩
  have Lmul2 : nmul2 ≤ 3000 := by rw [List.length_zipWith] at hn; have h1 := Eb.out; omega
  have Emul2 := Lib.hid hn; clear hn
  have HBn : Hid (Below w.heap.size w w6) := chain HB.out hb
  have Ran := Lib.hid (Ra.out.below hb); clear Ra
  have Rbn := Lib.hid (Rb.out.below hb); clear Rb
  have Rcn := Lib.hid (Rc.out.below hb); clear Rc
  have Rmul1n := Lib.hid (Rmul1.out.below hb); clear Rmul1
  clear HB hb
  have HB := Lib.hid HBn.out; clear HBn
  have Ra := Lib.hid Ran.out; clear Ran
  have Rb := Lib.hid Rbn.out; clear Rbn
  have Rc := Lib.hid Rcn.out; clear Rcn
  have Rmul1 := Lib.hid Rmul1n.out; clear Rmul1n
  have Rmul2 := Lib.hid hr; clear hr
  go_wp2_with fail
  refine (same_any Amul1 Amul2 cmul1 cmul2 nmul1 nmul2 (List.zipWith (· * ·) xs ys) (List.zipWith (· * ·) ys xs) w6 Rmul1.out Rmul2.out Emul1.out Emul2.out (by omega) (mul_comm xs ys)).mono ?_
  rintro e w7 ⟨rfl, hb⟩
  have HBn : Hid (Below w.heap.size w w7) := chain HB.out hb
  have Ran := Lib.hid (Ra.out.below hb); clear Ra
  have Rbn := Lib.hid (Rb.out.below hb); clear Rb
  have Rcn := Lib.hid (Rc.out.below hb); clear Rc
  have Rmul1n := Lib.hid (Rmul1.out.below hb); clear Rmul1
  have Rmul2n := Lib.hid (Rmul2.out.below hb); clear Rmul2
  clear HB hb
  have HB := Lib.hid HBn.out; clear HBn
  have Ra := Lib.hid Ran.out; clear Ran
  have Rb := Lib.hid Rbn.out; clear Rbn
  have Rc := Lib.hid Rcn.out; clear Rcn
  have Rmul1 := Lib.hid Rmul1n.out; clear Rmul1n
  have Rmul2 := Lib.hid Rmul2n.out; clear Rmul2n
  clear Rmul1 Emul1 Lmul1
  clear Rmul2 Emul2 Lmul2
  go_wp2_with fail
  refine (add_any Aa Ab ca cb na nb xs ys w7 Ra.out Rb.out Ea.out Eb.out (by omega)).mono ?_
  rintro e w8 ⟨Aadd1, cadd1, nadd1, hn, rfl, hr, hb⟩
  have Ladd1 : nadd1 ≤ 3000 := by rw [List.length_zipWith] at hn; have h1 := Ea.out; omega
  have Eadd1 := Lib.hid hn; clear hn
  have HBn : Hid (Below w.heap.size w w8) := chain HB.out hb
  have Ran := Lib.hid (Ra.out.below hb); clear Ra
  have Rbn := Lib.hid (Rb.out.below hb); clear Rb
  have Rcn := Lib.hid (Rc.out.below hb); clear Rc
  clear HB hb
  have HB := Lib.hid HBn.out; clear HBn
  have Ra := Lib.hid Ran.out; clear Ran
  have Rb := Lib.hid Rbn.out; clear Rbn
  have Rc := Lib.hid Rcn.out; clear Rcn
  have Radd1 := Lib.hid hr; clear hr
  go_wp2_with fail
  refine (add_any Aadd1 Ac cadd1 cc nadd1 nc (List.zipWith (· + ·) xs ys) zs w8 Radd1.out Rc.out Eadd1.out Ec.out (by omega)).mono ?_
  rintro e w9 ⟨Aadd2, cadd2, nadd2, hn, rfl, hr, hb⟩
  have Ladd2 : nadd2 ≤ 3000 := by rw [List.length_zipWith] at hn; have h1 := Eadd1.out; omega
  have Eadd2 := Lib.hid hn; clear hn
  have HBn : Hid (Below w.heap.size w w9) := chain HB.out hb
  have Ran := Lib.hid (Ra.out.below hb); clear Ra
  have Rbn := Lib.hid (Rb.out.below hb); clear Rb
  have Rcn := Lib.hid (Rc.out.below hb); clear Rc
  have Radd1n := Lib.hid (Radd1.out.below hb); clear Radd1
  clear HB hb
  have HB := Lib.hid HBn.out; clear HBn
  have Ra := Lib.hid Ran.out; clear Ran
  have Rb := Lib.hid Rbn.out; clear Rbn
  have Rc := Lib.hid Rcn.out; clear Rcn
  have Radd1 := Lib.hid Radd1n.out; clear Radd1n
  have Radd2 := Lib.hid hr; clear hr
  go_wp2_with fail
  refine (add_any Ab Ac cb cc nb nc ys zs w9 Rb.out Rc.out Eb.out Ec.out (by omega)).mono ?_
  rintro e w10 ⟨Aadd3, cadd3, nadd3, hn, rfl, hr, hb⟩
  have Ladd3 : nadd3 ≤ 3000 := by rw [List.length_zipWith] at hn; have h1 := Eb.out; omega
  have Eadd3 := Lib.hid hn; clear hn
  have HBn : Hid (Below w.heap.size w w10) := chain HB.out hb
  have Ran := Lib.hid (Ra.out.below hb); clear Ra
  have Rbn := Lib.hid (Rb.out.below hb); clear Rb
  have Rcn := Lib.hid (Rc.out.below hb); clear Rc
  have Radd1n := Lib.hid (Radd1.out.below hb); clear Radd1
  have Radd2n := Lib.hid (Radd2.out.below hb); clear Radd2
  clear HB hb
  have HB := Lib.hid HBn.out; clear HBn
  have Ra := Lib.hid Ran.out; clear Ran
  have Rb := Lib.hid Rbn.out; clear Rbn
  have Rc := Lib.hid Rcn.out; clear Rcn
  have Radd1 := Lib.hid Radd1n.out; clear Radd1n
  have Radd2 := Lib.hid Radd2n.out; clear Radd2n
  have Radd3 := Lib.hid hr; clear hr
  go_wp2_with fail
  refine (add_any Aa Aadd3 ca cadd3 na nadd3 xs (List.zipWith (· + ·) ys zs) w10 Ra.out Radd3.out Ea.out Eadd3.out (by omega)).mono ?_
  rintro e w11 ⟨Aadd4, cadd4, nadd4, hn, rfl, hr, hb⟩
  have Ladd4 : nadd4 ≤ 3000 := by rw [List.length_zipWith] at hn; have h1 := Ea.out; omega
  have Eadd4 := Lib.hid hn; clear hn
  have HBn : Hid (Below w.heap.size w w11) := chain HB.out hb
  have Ran := Lib.hid (Ra.out.below hb); clear Ra
  have Rbn := Lib.hid (Rb.out.below hb); clear Rb
  have Rcn := Lib.hid (Rc.out.below hb); clear Rc
  have Radd1n := Lib.hid (Radd1.out.below hb); clear Radd1
  have Radd2n := Lib.hid (Radd2.out.below hb); clear Radd2
  have Radd3n := Lib.hid (Radd3.out.below hb); clear Radd3
  clear HB hb
  have HB := Lib.hid HBn.out; clear HBn
  have Ra := Lib.hid Ran.out; clear Ran
  have Rb := Lib.hid Rbn.out; clear Rbn
  have Rc := Lib.hid Rcn.out; clear Rcn
  have Radd1 := Lib.hid Radd1n.out; clear Radd1n
  have Radd2 := Lib.hid Radd2n.out; clear Radd2n
  have Radd3 := Lib.hid Radd3n.out; clear Radd3n
  have Radd4 := Lib.hid hr; clear hr
  go_wp2_with fail
  refine (same_any Aadd2 Aadd4 cadd2 cadd4 nadd2 nadd4 (List.zipWith (· + ·) (List.zipWith (· + ·) xs ys) zs) (List.zipWith (· + ·) xs (List.zipWith (· + ·) ys zs)) w11 Radd2.out Radd4.out Eadd2.out Eadd4.out (by omega) (add_assoc xs ys zs)).mono ?_
  rintro e w12 ⟨rfl, hb⟩
  have HBn : Hid (Below w.heap.size w w12) := chain HB.out hb
  have Ran := Lib.hid (Ra.out.below hb); clear Ra
  have Rbn := Lib.hid (Rb.out.below hb); clear Rb
  have Rcn := Lib.hid (Rc.out.below hb); clear Rc
  have Radd1n := Lib.hid (Radd1.out.below hb); clear Radd1
  have Radd2n := Lib.hid (Radd2.out.below hb); clear Radd2
  have Radd3n := Lib.hid (Radd3.out.below hb); clear Radd3
  have Radd4n := Lib.hid (Radd4.out.below hb); clear Radd4
  clear HB hb
  have HB := Lib.hid HBn.out; clear HBn
  have Ra := Lib.hid Ran.out; clear Ran
  have Rb := Lib.hid Rbn.out; clear Rbn
  have Rc := Lib.hid Rcn.out; clear Rcn
  have Radd1 := Lib.hid Radd1n.out; clear Radd1n
  have Radd2 := Lib.hid Radd2n.out; clear Radd2n
  have Radd3 := Lib.hid Radd3n.out; clear Radd3n
  have Radd4 := Lib.hid Radd4n.out; clear Radd4n
  clear Radd1 Eadd1 Ladd1
  clear Radd2 Eadd2 Ladd2
  clear Radd3 Eadd3 Ladd3
  clear Radd4 Eadd4 Ladd4
  go_wp2_with fail
  refine (mul_any Aa Ab ca cb na nb xs ys w12 Ra.out Rb.out Ea.out Eb.out (by omega)).mono ?_
  rintro e w13 ⟨Amul1, cmul1, nmul1, hn, rfl, hr, hb⟩
  have Lmul1 : nmul1 ≤ 3000 := by rw [List.length_zipWith] at hn; have h1 := Ea.out; omega
  have Emul1 := Lib.hid hn; clear hn
  have HBn : Hid (Below w.heap.size w w13) := chain HB.out hb
  have Ran := Lib.hid (Ra.out.below hb); clear Ra
  have Rbn := Lib.hid (Rb.out.below hb); clear Rb
  have Rcn := Lib.hid (Rc.out.below hb); clear Rc
  clear HB hb
  have HB := Lib.hid HBn.out; clear HBn
  have Ra := Lib.hid Ran.out; clear Ran
  have Rb := Lib.hid Rbn.out; clear Rbn
  have Rc := Lib.hid Rcn.out; clear Rcn
  have Rmul1 := Lib.hid hr; clear hr
  go_wp2_with fail
  refine (mul_any Amul1 Ac cmul1 cc nmul1 nc (List.zipWith (· * ·) xs ys) zs w13 Rmul1.out Rc.out Emul1.out Ec.out (by omega)).mono ?_
  rintro e w14 ⟨Amul2, cmul2, nmul2, hn, rfl, hr, hb⟩
  have Lmul2 : nmul2 ≤ 3000 := by rw [List.length_zipWith] at hn; have h1 := Emul1.out; omega
  have Emul2 := Lib.hid hn; clear hn
  have HBn : Hid (Below w.heap.size w w14) := chain HB.out hb
  have Ran := Lib.hid (Ra.out.below hb); clear Ra
  have Rbn := Lib.hid (Rb.out.below hb); clear Rb
  have Rcn := Lib.hid (Rc.out.below hb); clear Rc
  have Rmul1n := Lib.hid (Rmul1.out.below hb); clear Rmul1
  clear HB hb
  have HB := Lib.hid HBn.out; clear HBn
  have Ra := Lib.hid Ran.out; clear Ran
  have Rb := Lib.hid Rbn.out; clear Rbn
  have Rc := Lib.hid Rcn.out; clear Rcn
  have Rmul1 := Lib.hid Rmul1n.out; clear Rmul1n
  have Rmul2 := Lib.hid hr; clear hr
  go_wp2_with fail
  refine (mul_any Ab Ac cb cc nb nc ys zs w14 Rb.out Rc.out Eb.out Ec.out (by omega)).mono ?_
  rintro e w15 ⟨Amul3, cmul3, nmul3, hn, rfl, hr, hb⟩
  have Lmul3 : nmul3 ≤ 3000 := by rw [List.length_zipWith] at hn; have h1 := Eb.out; omega
  have Emul3 := Lib.hid hn; clear hn
  have HBn : Hid (Below w.heap.size w w15) := chain HB.out hb
  have Ran := Lib.hid (Ra.out.below hb); clear Ra
  have Rbn := Lib.hid (Rb.out.below hb); clear Rb
  have Rcn := Lib.hid (Rc.out.below hb); clear Rc
  have Rmul1n := Lib.hid (Rmul1.out.below hb); clear Rmul1
  have Rmul2n := Lib.hid (Rmul2.out.below hb); clear Rmul2
  clear HB hb
  have HB := Lib.hid HBn.out; clear HBn
  have Ra := Lib.hid Ran.out; clear Ran
  have Rb := Lib.hid Rbn.out; clear Rbn
  have Rc := Lib.hid Rcn.out; clear Rcn
  have Rmul1 := Lib.hid Rmul1n.out; clear Rmul1n
  have Rmul2 := Lib.hid Rmul2n.out; clear Rmul2n
  have Rmul3 := Lib.hid hr; clear hr
  go_wp2_with fail
  refine (mul_any Aa Amul3 ca cmul3 na nmul3 xs (List.zipWith (· * ·) ys zs) w15 Ra.out Rmul3.out Ea.out Emul3.out (by omega)).mono ?_
  rintro e w16 ⟨Amul4, cmul4, nmul4, hn, rfl, hr, hb⟩
  have Lmul4 : nmul4 ≤ 3000 := by rw [List.length_zipWith] at hn; have h1 := Ea.out; omega
  have Emul4 := Lib.hid hn; clear hn
  have HBn : Hid (Below w.heap.size w w16) := chain HB.out hb
  have Ran := Lib.hid (Ra.out.below hb); clear Ra
  have Rbn := Lib.hid (Rb.out.below hb); clear Rb
  have Rcn := Lib.hid (Rc.out.below hb); clear Rc
  have Rmul1n := Lib.hid (Rmul1.out.below hb); clear Rmul1
  have Rmul2n := Lib.hid (Rmul2.out.below hb); clear Rmul2
  have Rmul3n := Lib.hid (Rmul3.out.below hb); clear Rmul3
  clear HB hb
  have HB := Lib.hid HBn.out; clear HBn
  have Ra := Lib.hid Ran.out; clear Ran
  have Rb := Lib.hid Rbn.out; clear Rbn
  have Rc := Lib.hid Rcn.out; clear Rcn
  have Rmul1 := Lib.hid Rmul1n.out; clear Rmul1n
  have Rmul2 := Lib.hid Rmul2n.out; clear Rmul2n
  have Rmul3 := Lib.hid Rmul3n.out; clear Rmul3n
  have Rmul4 := Lib.hid hr; clear hr
  go_wp2_with fail
  refine (same_any Amul2 Amul4 cmul2 cmul4 nmul2 nmul4 (List.zipWith (· * ·) (List.zipWith (· * ·) xs ys) zs) (List.zipWith (· * ·) xs (List.zipWith (· * ·) ys zs)) w16 Rmul2.out Rmul4.out Emul2.out Emul4.out (by omega) (mul_assoc xs ys zs)).mono ?_
  rintro e w17 ⟨rfl, hb⟩
  have HBn : Hid (Below w.heap.size w w17) := chain HB.out hb
  have Ran := Lib.hid (Ra.out.below hb); clear Ra
  have Rbn := Lib.hid (Rb.out.below hb); clear Rb
  have Rcn := Lib.hid (Rc.out.below hb); clear Rc
  have Rmul1n := Lib.hid (Rmul1.out.below hb); clear Rmul1
  have Rmul2n := Lib.hid (Rmul2.out.below hb); clear Rmul2
  have Rmul3n := Lib.hid (Rmul3.out.below hb); clear Rmul3
  have Rmul4n := Lib.hid (Rmul4.out.below hb); clear Rmul4
  clear HB hb
  have HB := Lib.hid HBn.out; clear HBn
  have Ra := Lib.hid Ran.out; clear Ran
  have Rb := Lib.hid Rbn.out; clear Rbn
  have Rc := Lib.hid Rcn.out; clear Rcn
  have Rmul1 := Lib.hid Rmul1n.out; clear Rmul1n
  have Rmul2 := Lib.hid Rmul2n.out; clear Rmul2n
  have Rmul3 := Lib.hid Rmul3n.out; clear Rmul3n
  have Rmul4 := Lib.hid Rmul4n.out; clear Rmul4n
  clear Rmul1 Emul1 Lmul1
  clear Rmul2 Emul2 Lmul2
  clear Rmul3 Emul3 Lmul3
  clear Rmul4 Emul4 Lmul4
  go_wp2_with fail
  refine (add_any Ab Ac cb cc nb nc ys zs w17 Rb.out Rc.out Eb.out Ec.out (by omega)).mono ?_
  rintro e w18 ⟨Ap1, cp1, np1, hn, rfl, hr, hb⟩
  have Lp1 : np1 ≤ 3000 := by rw [List.length_zipWith] at hn; have h1 := Eb.out; omega
  have Ep1 := Lib.hid hn; clear hn
  have HBn : Hid (Below w.heap.size w w18) := chain HB.out hb
  have Ran := Lib.hid (Ra.out.below hb); clear Ra
  have Rbn := Lib.hid (Rb.out.below hb); clear Rb
  have Rcn := Lib.hid (Rc.out.below hb); clear Rc
  clear HB hb
  have HB := Lib.hid HBn.out; clear HBn
  have Ra := Lib.hid Ran.out; clear Ran
  have Rb := Lib.hid Rbn.out; clear Rbn
  have Rc := Lib.hid Rcn.out; clear Rcn
  have Rp1 := Lib.hid hr; clear hr
  go_wp2_with fail
  refine (mul_any Aa Ap1 ca cp1 na np1 xs (List.zipWith (· + ·) ys zs) w18 Ra.out Rp1.out Ea.out Ep1.out (by omega)).mono ?_
  rintro e w19 ⟨Ap2, cp2, np2, hn, rfl, hr, hb⟩
  have Lp2 : np2 ≤ 3000 := by rw [List.length_zipWith] at hn; have h1 := Ea.out; omega
  have Ep2 := Lib.hid hn; clear hn
  have HBn : Hid (Below w.heap.size w w19) := chain HB.out hb
  have Ran := Lib.hid (Ra.out.below hb); clear Ra
  have Rbn := Lib.hid (Rb.out.below hb); clear Rb
  have Rcn := Lib.hid (Rc.out.below hb); clear Rc
  have Rp1n := Lib.hid (Rp1.out.below hb); clear Rp1
  clear HB hb
  have HB := Lib.hid HBn.out; clear HBn
  have Ra := Lib.hid Ran.out; clear Ran
  have Rb := Lib.hid Rbn.out; clear Rbn
  have Rc := Lib.hid Rcn.out; clear Rcn
  have Rp1 := Lib.hid Rp1n.out; clear Rp1n
  have Rp2 := Lib.hid hr; clear hr
  go_wp2_with fail
  refine (mul_any Aa Ab ca cb na nb xs ys w19 Ra.out Rb.out Ea.out Eb.out (by omega)).mono ?_
  rintro e w20 ⟨Ap3, cp3, np3, hn, rfl, hr, hb⟩
  have Lp3 : np3 ≤ 3000 := by rw [List.length_zipWith] at hn; have h1 := Ea.out; omega
  have Ep3 := Lib.hid hn; clear hn
  have HBn : Hid (Below w.heap.size w w20) := chain HB.out hb
  have Ran := Lib.hid (Ra.out.below hb); clear Ra
  have Rbn := Lib.hid (Rb.out.below hb); clear Rb
  have Rcn := Lib.hid (Rc.out.below hb); clear Rc
  have Rp1n := Lib.hid (Rp1.out.below hb); clear Rp1
  have Rp2n := Lib.hid (Rp2.out.below hb); clear Rp2
  clear HB hb
  have HB := Lib.hid HBn.out; clear HBn
  have Ra := Lib.hid Ran.out; clear Ran
  have Rb := Lib.hid Rbn.out; clear Rbn
  have Rc := Lib.hid Rcn.out; clear Rcn
  have Rp1 := Lib.hid Rp1n.out; clear Rp1n
  have Rp2 := Lib.hid Rp2n.out; clear Rp2n
  have Rp3 := Lib.hid hr; clear hr
  go_wp2_with fail
  refine (mul_any Aa Ac ca cc na nc xs zs w20 Ra.out Rc.out Ea.out Ec.out (by omega)).mono ?_
  rintro e w21 ⟨Ap4, cp4, np4, hn, rfl, hr, hb⟩
  have Lp4 : np4 ≤ 3000 := by rw [List.length_zipWith] at hn; have h1 := Ea.out; omega
  have Ep4 := Lib.hid hn; clear hn
  have HBn : Hid (Below w.heap.size w w21) := chain HB.out hb
  have Ran := Lib.hid (Ra.out.below hb); clear Ra
  have Rbn := Lib.hid (Rb.out.below hb); clear Rb
  have Rcn := Lib.hid (Rc.out.below hb); clear Rc
  have Rp1n := Lib.hid (Rp1.out.below hb); clear Rp1
  have Rp2n := Lib.hid (Rp2.out.below hb); clear Rp2
  have Rp3n := Lib.hid (Rp3.out.below hb); clear Rp3
  clear HB hb
  have HB := Lib.hid HBn.out; clear HBn
  have Ra := Lib.hid Ran.out; clear Ran
  have Rb := Lib.hid Rbn.out; clear Rbn
  have Rc := Lib.hid Rcn.out; clear Rcn
  have Rp1 := Lib.hid Rp1n.out; clear Rp1n
  have Rp2 := Lib.hid Rp2n.out; clear Rp2n
  have Rp3 := Lib.hid Rp3n.out; clear Rp3n
  have Rp4 := Lib.hid hr; clear hr
  go_wp2_with fail
  refine (add_any Ap3 Ap4 cp3 cp4 np3 np4 (List.zipWith (· * ·) xs ys) (List.zipWith (· * ·) xs zs) w21 Rp3.out Rp4.out Ep3.out Ep4.out (by omega)).mono ?_
  rintro e w22 ⟨Ap5, cp5, np5, hn, rfl, hr, hb⟩
  have Lp5 : np5 ≤ 3000 := by rw [List.length_zipWith] at hn; have h1 := Ep3.out; omega
  have Ep5 := Lib.hid hn; clear hn
  have HBn : Hid (Below w.heap.size w w22) := chain HB.out hb
  have Ran := Lib.hid (Ra.out.below hb); clear Ra
  have Rbn := Lib.hid (Rb.out.below hb); clear Rb
  have Rcn := Lib.hid (Rc.out.below hb); clear Rc
  have Rp1n := Lib.hid (Rp1.out.below hb); clear Rp1
  have Rp2n := Lib.hid (Rp2.out.below hb); clear Rp2
  have Rp3n := Lib.hid (Rp3.out.below hb); clear Rp3
  have Rp4n := Lib.hid (Rp4.out.below hb); clear Rp4
  clear HB hb
  have HB := Lib.hid HBn.out; clear HBn
  have Ra := Lib.hid Ran.out; clear Ran
  have Rb := Lib.hid Rbn.out; clear Rbn
  have Rc := Lib.hid Rcn.out; clear Rcn
  have Rp1 := Lib.hid Rp1n.out; clear Rp1n
  have Rp2 := Lib.hid Rp2n.out; clear Rp2n
  have Rp3 := Lib.hid Rp3n.out; clear Rp3n
  have Rp4 := Lib.hid Rp4n.out; clear Rp4n
  have Rp5 := Lib.hid hr; clear hr
  go_wp2_with fail
  refine (same_any Ap2 Ap5 cp2 cp5 np2 np5 (List.zipWith (· * ·) xs (List.zipWith (· + ·) ys zs)) (List.zipWith (· + ·) (List.zipWith (· * ·) xs ys) (List.zipWith (· * ·) xs zs)) w22 Rp2.out Rp5.out Ep2.out Ep5.out (by omega) (mul_over xs ys zs)).mono ?_
  rintro e w23 ⟨rfl, hb⟩
  have HBn : Hid (Below w.heap.size w w23) := chain HB.out hb
  have Ran := Lib.hid (Ra.out.below hb); clear Ra
  have Rbn := Lib.hid (Rb.out.below hb); clear Rb
  have Rcn := Lib.hid (Rc.out.below hb); clear Rc
  have Rp1n := Lib.hid (Rp1.out.below hb); clear Rp1
  have Rp2n := Lib.hid (Rp2.out.below hb); clear Rp2
  have Rp3n := Lib.hid (Rp3.out.below hb); clear Rp3
  have Rp4n := Lib.hid (Rp4.out.below hb); clear Rp4
  have Rp5n := Lib.hid (Rp5.out.below hb); clear Rp5
  clear HB hb
  have HB := Lib.hid HBn.out; clear HBn
  have Ra := Lib.hid Ran.out; clear Ran
  have Rb := Lib.hid Rbn.out; clear Rbn
  have Rc := Lib.hid Rcn.out; clear Rcn
  have Rp1 := Lib.hid Rp1n.out; clear Rp1n
  have Rp2 := Lib.hid Rp2n.out; clear Rp2n
  have Rp3 := Lib.hid Rp3n.out; clear Rp3n
  have Rp4 := Lib.hid Rp4n.out; clear Rp4n
  have Rp5 := Lib.hid Rp5n.out; clear Rp5n
  go_wp2_with fail
  go_ret
  exact ⟨rfl, HB.out⟩

set_option maxHeartbeats 400000 in
theorem laws_great (Aa Ab Ac : Option Addr) (ca cb cc na nb nc : Nat) (w : World) (h : 3000 < na ∨ 3000 < nb) :
    Calls Try.prog 4 #[.slice Aa na ca, .slice Ab nb cb, .slice Ac nc cc] w fun e w' => e = .returned (.bool true) ∧ Below w.heap.size w w' := by
  have HG := Lib.hid (fun w => great_not Aa Ab ca cb na nb w h); clear h
  go_enter Try.func4, Try.ntmps4
  go_wp2_with fail
  refine (head_any w).mono ?_
  rintro e w1 ⟨rfl, hb⟩
  have HB := Lib.hid hb; clear hb
  go_wp2_with fail
  refine (HG.out w1).mono ?_
  rintro e w' ⟨rfl, rfl⟩
  go_wp2_with fail
  go_ret
  exact ⟨rfl, HB.out⟩

set_option maxHeartbeats 400000 in
theorem laws_third (Aa Ab Ac : Option Addr) (ca cb cc na nb nc : Nat) (w : World) (h1 : na ≤ 3000) (h2 : nb ≤ 3000) (h : 3000 < nc) :
    Calls Try.prog 4 #[.slice Aa na ca, .slice Ab nb cb, .slice Ac nc cc] w fun e w' => e = .returned (.bool true) ∧ Below w.heap.size w w' := by
  have HG := Lib.hid (fun w => great_any Aa Ab ca cb na nb w h1 h2); clear h1 h2
  have h3 : decide (3000 < (nc : Int)) = true := decide_eq_true (by omega)
  go_enter Try.func4, Try.ntmps4
  go_wp2_with fail
  refine (head_any w).mono ?_
  rintro e w1 ⟨rfl, hb⟩
  have HB := Lib.hid hb; clear hb
  go_wp2_with fail
  refine (HG.out w1).mono ?_
  rintro e w' ⟨rfl, rfl⟩
  go_wp2_with fail
  go_ret
  exact ⟨rfl, HB.out⟩

theorem laws_walk (Aa : Option Addr) (ca na : Nat) (xs : List UInt64) (Ab : Option Addr) (cb nb : Nat) (ys : List UInt64) (Ac : Option Addr) (cc nc : Nat) (zs : List UInt64) (w : World)
    (ra : Rd w Aa xs) (ea : na = xs.length) (_ : na ≤ ca) (rb : Rd w Ab ys) (eb : nb = ys.length) (_ : nb ≤ cb) (rc : Rd w Ac zs) (ec : nc = zs.length) (_ : nc ≤ cc) :
    Calls Try.prog 4 #[.slice Aa na ca, .slice Ab nb cb, .slice Ac nc cc] w fun e w' => e = .returned (.bool true) ∧ Below w.heap.size w w' := by
  by_cases h : 3000 < na ∨ 3000 < nb
  · exact laws_great Aa Ab Ac ca cb cc na nb nc w h
  · by_cases h3 : 3000 < nc
    · exact laws_third Aa Ab Ac ca cb cc na nb nc w (by omega) (by omega) h3
    · exact laws_small Aa Ab Ac ca cb cc na nb nc xs ys zs w ra rb rc ea eb ec (by omega) (by omega) (by omega)

end Go.Proofs.Ytbhmjmfappfjkaa
