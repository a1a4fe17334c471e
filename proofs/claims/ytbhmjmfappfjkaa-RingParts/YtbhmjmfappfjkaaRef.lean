/-
  What the document's own rows answer: Same, Add, Sub, Mul, Scale, Sum and Dot.
-/
import Derived.Test.YtbhmjmfappfjkaaRows2
namespace Go.Proofs.Ytbhmjmfappfjkaa
open Go.RowKit

set_option maxHeartbeats 400000 in
theorem great_any (A B : Option Addr) (cA cB na nb : Nat) (w : World) (ha : na ≤ 3000) (hb : nb ≤ 3000) :
    Calls Try.prog 11 #[.slice A na cA, .slice B nb cB] w fun e w' => e = .returned (.bool false) ∧ w = w' := by
  have h1 : decide (3000 < (na : Int)) = false := decide_eq_false (by omega)
  have h2 : decide (3000 < (nb : Int)) = false := decide_eq_false (by omega)
  clear ha hb
  go_enter Try.func11, Try.ntmps11
  go_wp2
  go_ret
  exact ⟨rfl, rfl⟩

set_option maxHeartbeats 400000 in
theorem great_not (A B : Option Addr) (cA cB na nb : Nat) (w : World) (h : 3000 < na ∨ 3000 < nb) :
    Calls Try.prog 11 #[.slice A na cA, .slice B nb cB] w fun e w' => e = .returned (.bool true) ∧ w = w' := by
  by_cases ha : 3000 < na
  · have h1 : decide (3000 < (na : Int)) = true := decide_eq_true (by omega)
    clear h
    go_enter Try.func11, Try.ntmps11
    go_wp2
    go_ret
    exact ⟨rfl, rfl⟩
  · have h1 : decide (3000 < (na : Int)) = false := decide_eq_false (by omega)
    have h2 : decide (3000 < (nb : Int)) = true := decide_eq_true (by omega)
    clear h ha
    go_enter Try.func11, Try.ntmps11
    go_wp2
    go_ret
    exact ⟨rfl, rfl⟩

set_option maxHeartbeats 400000 in
theorem same_core (A B : Option Addr) (cA cB n : Nat) (us : List UInt64) (w : World) (hx : Rd w A us) (hy : Rd w B us) (lx : n = us.length) (hn : n ≤ 1000000) :
    Calls Try.prog 14 #[.slice A n cA, .slice B n cB] w fun e w' => e = .returned (.bool true) ∧ Below w.heap.size w w' := by
  have HX := Lib.hid hx; clear hx
  have HY := Lib.hid hy; clear hy
  have LX := Lib.hid lx; clear lx
  have hne : ((n : Int) != (n : Int)) = false := by simp
  go_enter Try.func14, Try.ntmps14
  go_wp2_with fail
  go_loopw [5] (fun i wr => ∃ k : Nat, k ≤ n ∧ i = .int .i64 k ∧ Hid (Below w.heap.size w wr)) (fun i _ => n - (intOf i).toNat)
  case atStart => exact ⟨0, Nat.zero_le _, rfl, Below.refl _ _⟩
  case round =>
    obtain ⟨k, hk, rfl, HB⟩ := hrel
    by_cases hlt : k < n
    · obtain ⟨b1, o1, rfl, l1, c1⟩ := HX.out (by rw [← LX.out]; omega)
      obtain ⟨b2, o2, rfl, l2, c2⟩ := HY.out (by rw [← LX.out]; omega)
      obtain ⟨x, HXk⟩ : ∃ x : UInt64, Hid (uz x = nth us k) := ⟨_, rfl⟩
      have d1 : wr.cell? ⟨b1, o1 + k, none⟩ = some (.int .u64 (uz x)) := by
        rw [HB.out.cell (p := ⟨b1, o1 + k, none⟩) l1, c1 k (by rw [← LX.out]; exact hlt), HXk.out]
      have d2 : wr.cell? ⟨b2, o2 + k, none⟩ = some (.int .u64 (uz x)) := by
        rw [HB.out.cell (p := ⟨b2, o2 + k, none⟩) l2, c2 k (by rw [← LX.out]; exact hlt), HXk.out]
      clear c1 c2
      have hxx : (uz x != uz x) = false := by simp
      go_wp2_with fail
      go_quiet (fail)
      go_wp2_with fail
      go_roundw
      case rel => exact ⟨k + 1, by omega, by go_num, below_drewN HB.out _⟩
      case measure => simp [intOf]; omega
    · go_wp2
      go_ret
      exact ⟨rfl, HB.out⟩

theorem same_any (A B : Option Addr) (cA cB na nb : Nat) (xs ys : List UInt64) (w : World) (hx : Rd w A xs) (hy : Rd w B ys) (lx : na = xs.length) (ly : nb = ys.length) (hn : na ≤ 1000000) (he : xs = ys) :
    Calls Try.prog 14 #[.slice A na cA, .slice B nb cB] w fun e w' => e = .returned (.bool true) ∧ Below w.heap.size w w' := by
  subst he
  obtain rfl : nb = na := by rw [lx, ly]
  exact same_core A B cA cB nb xs w hx hy lx hn

end Go.Proofs.Ytbhmjmfappfjkaa
