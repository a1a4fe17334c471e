/-
  What the document's own functions of layer 10 answer: Split, Join, Part.
-/
import Derived.Test.YtdigdfkecnddiaaHMath
import Derived.Test.YtdigdfkecnddiaaSRef
namespace Go.Proofs.Ytdigdfkecnddiaa
open Go.RowKit

set_option maxHeartbeats 1000000 in
theorem rsplit10 (s : UInt64) (A : Option Addr) (cA n : Nat) (xs : List UInt64) (w : World) (hx : Rg ucells w A xs) (lx : n = xs.length) (hn : n ≤ 1000000) :
    Calls Try.prog 38 #[.int .u64 (uz s), .slice A n cA] w (TwoTo (splA s xs) (splB s xs) w) := by
  have HX := Lib.hid hx; have LX := Lib.hid lx
  by_cases h1 : 4096 < n
  · have d : decide (4096 < (n : Int)) = true := decide_eq_true (by omega)
    have E1 : Hid (splA s xs = []) := splA_no (by omega)
    have E2 : Hid (splB s xs = []) := splB_no (by omega)
    clear hx lx h1
    go_enter Try.func38, Try.ntmps38
    go_wp2_with fail
    go_ret2
    exact ⟨none, 0, 0, none, 0, 0, rfl, by rw [E1.out]; rfl, by rw [E1.out]; exact Rg.nil _ _ _, by rw [E2.out]; rfl, by rw [E2.out]; exact Rg.nil _ _ _, Below.refl _ _, Nat.le_refl _, Nat.zero_le _, Nat.le_refl _, Nat.zero_le _⟩
  have d : decide (4096 < (n : Int)) = false := decide_eq_false (by omega)
  have C1 : Hid (∀ w, Calls Try.prog 34 #[.int .u64 (uz s), .int .u64 0, .int .i64 (n : Int)] w (RowTo ucells (splA s xs) w)) := fun w => by unfold splA; rw [← lx]; exact rrow9 s 0 (n : Int) w
  obtain ⟨ps, has⟩ : ∃ ps, ps = splA s xs := ⟨_, rfl⟩
  have E2 : Hid (splB s xs = subR xs ps) := by rw [has]; rfl
  rw [← has] at C1 ⊢
  clear hx lx h1 has
  go_enter Try.func38, Try.ntmps38
  go_wp2_with fail
  refine (C1.out _).mono ?_
  rintro e w1 ⟨A1, k1, n1, rfl, h1, h2, hb, h4, h5⟩
  have M1 := Lib.hid h1; have R1 := Lib.hid h2; have B1 := Lib.hid hb; have K1 := Lib.hid h4; have K2 := Lib.hid h5
  clear h1 h2 hb h4 h5
  go_wp2_with fail
  refine (nsub A A1 cA k1 n n1 xs ps _ (HX.out.below B1.out) R1.out LX.out M1.out hn).mono ?_
  rintro e w2 ⟨A2, k2, n2, rfl, h1, h2, hb, h4, h5, _⟩
  have M2 := Lib.hid h1; have R2 := Lib.hid h2; have B2 := Lib.hid (chain B1.out hb); have K3 := Lib.hid h4; have K4 := Lib.hid h5
  have R1 := Lib.hid (R1.out.below hb)
  clear h1 h2 hb h4 h5
  go_wp2_with fail
  go_ret2
  exact ⟨A1, k1, n1, A2, k2, n2, rfl, M1.out, R1.out, by rw [E2.out]; exact M2.out, by rw [E2.out]; exact R2.out, B2.out, K1.out, K2.out, K3.out, K4.out⟩

set_option maxHeartbeats 1000000 in
theorem rjoin10 (A B : Option Addr) (cA cB na nb : Nat) (xs ys : List UInt64) (w : World) (hx : Rg ucells w A xs) (hy : Rg ucells w B ys) (lx : na = xs.length) (ly : nb = ys.length) (hn : na ≤ 1000000) :
    Calls Try.prog 40 #[.slice A na cA, .slice B nb cB] w (RowTo ucells (addR xs ys) w) := by
  have HP := Lib.hid (nadd A B cA cB na nb xs ys w hx hy lx ly hn)
  clear hx hy lx ly
  go_enter Try.func40, Try.ntmps40
  go_wp2_with fail
  refine HP.out.mono ?_
  rintro e w1 ⟨A', c', n', rfl, h1, h2, h3, h4, h5, _⟩
  have H1 := Lib.hid h1; have H2 := Lib.hid h2; have H3 := Lib.hid h3; have H4 := Lib.hid h4; have H5 := Lib.hid h5
  clear h1 h2 h3 h4 h5
  go_wp2_with fail
  go_ret
  exact ⟨A', c', n', rfl, H1.out, H2.out, H3.out, H4.out, H5.out⟩

set_option maxHeartbeats 1000000 in
theorem rpart10 (who : Int) (A : Option Addr) (cA n : Nat) (xs : List UInt64) (w : World) (hx : Rg ucells w A xs) (lx : n = xs.length) (hn : n ≤ 1000000) :
    Calls Try.prog 42 #[.int .i64 who, .slice A n cA] w (RowTo ucells (partN who xs) w) := by
  have HP : Hid (∀ m : UInt64, Calls Try.prog 23 #[.int .u64 (uz m), .slice A n cA] w (RowNew ucells (sclR m xs) w)) := fun m => nscale m A cA n xs w hx lx hn
  clear hx lx
  by_cases h0 : who = 0
  · have d : (who == 0) = true := by simp [h0]
    have E : Hid (partN who xs = sclR 1 xs) := by show _ = _; rw [h0, part_yes, scl_one]
    clear h0
    go_enter Try.func42, Try.ntmps42
    go_wp2_with fail
    refine (HP.out 1).mono ?_
    rintro e w1 ⟨A', c', n', rfl, h1, h2, h3, h4, h5, _⟩
    have H1 := Lib.hid h1; have H2 := Lib.hid h2; have H3 := Lib.hid h3; have H4 := Lib.hid h4; have H5 := Lib.hid h5
    clear h1 h2 h3 h4 h5
    go_wp2_with fail
    go_ret
    exact ⟨A', c', n', rfl, by rw [E.out]; exact H1.out, by rw [E.out]; exact H2.out, H3.out, H4.out, H5.out⟩
  · have d : (who == 0) = false := by simp [h0]
    have E : Hid (partN who xs = sclR 0 xs) := by show _ = _; rw [part_no h0, scl_zero]
    clear h0
    go_enter Try.func42, Try.ntmps42
    go_wp2_with fail
    refine (HP.out 0).mono ?_
    rintro e w1 ⟨A', c', n', rfl, h1, h2, h3, h4, h5, _⟩
    have H1 := Lib.hid h1; have H2 := Lib.hid h2; have H3 := Lib.hid h3; have H4 := Lib.hid h4; have H5 := Lib.hid h5
    clear h1 h2 h3 h4 h5
    go_wp2_with fail
    go_ret
    exact ⟨A', c', n', rfl, by rw [E.out]; exact H1.out, by rw [E.out]; exact H2.out, H3.out, H4.out, H5.out⟩

end Go.Proofs.Ytdigdfkecnddiaa
