/-
  What RingParts answers: true, whatever two rows and cut it is asked.
-/
import Derived.Test.YtbhmjmfappfjkaaLParts1
import Derived.Test.YtbhmjmfappfjkaaLParts2
import Derived.Test.YtbhmjmfappfjkaaLParts3
import Derived.Test.YtbhmjmfappfjkaaLParts4
import Derived.Test.YtbhmjmfappfjkaaLParts5
import Derived.Test.YtbhmjmfappfjkaaLParts6
import Derived.Test.YtbhmjmfappfjkaaLParts7
import Derived.Test.YtbhmjmfappfjkaaLParts8
namespace Go.Proofs.Ytbhmjmfappfjkaa
open Go.RowKit

set_option maxHeartbeats 400000 in
theorem parts_great (Aa Ab : Option Addr) (ca cb na nb n : Nat) (a2 : Int) (w : World) (hn : 3000 < n) (hc : (n = na ∧ n ≤ nb) ∨ (n = nb ∧ n < na)) :
    Calls Try.prog 7 #[.slice Aa na ca, .slice Ab nb cb, .int .u16 a2] w fun e w' => e = .returned (.bool true) ∧ Below w.heap.size w w' := by
  have hg : decide (3000 < (n : Int)) = true := decide_eq_true (by omega)
  rcases hc with ⟨h1, h2⟩ | ⟨h1, h2⟩
  all_goals
    subst h1
    go_enter Try.func7, Try.ntmps7
    go_wp2_with fail
    refine (head_any w).mono ?_
    rintro e w1 ⟨rfl, hb⟩
    have HB := Lib.hid hb; clear hb
    go_wp2_with fail
    go_ret
    exact ⟨rfl, HB.out⟩

theorem parts_walk (Aa : Option Addr) (ca na : Nat) (xs : List UInt64) (Ab : Option Addr) (cb nb : Nat) (ys : List UInt64) (a2 : Int) (w : World)
    (ra : Rd w Aa xs) (ea : na = xs.length) (fa : na ≤ ca) (rb : Rd w Ab ys) (eb : nb = ys.length) (fb : nb ≤ cb) (h2 : 0 ≤ a2 ∧ a2 ≤ 65535) :
    Calls Try.prog 7 #[.slice Aa na ca, .slice Ab nb cb, .int .u16 a2] w fun e w' => e = .returned (.bool true) ∧ Below w.heap.size w w' := by
  obtain ⟨n, hc⟩ : ∃ n, (n = na ∧ n ≤ nb) ∨ (n = nb ∧ n < na) := ⟨min na nb, by omega⟩
  by_cases hn : 3000 < n
  · exact parts_great Aa Ab ca cb na nb n a2 w hn hc
  · have m0 := Int.emod_nonneg a2 (show (n : Int) + 1 ≠ 0 by omega)
    have m1 := Int.emod_lt_of_pos a2 (show 0 < (n : Int) + 1 by omega)
    obtain ⟨k, hk⟩ : ∃ k : Nat, a2 % ((n : Int) + 1) = (k : Int) := ⟨(a2 % ((n : Int) + 1)).toNat, by omega⟩
    have hkn : k ≤ n := by omega
    have lx : n = (xs.take n).length := by simp; omega
    have ly : n = (ys.take n).length := by simp; omega
    rcases hc with ⟨h1, h3⟩ | ⟨h1, h3⟩
    · subst h1
      by_cases ga : ca = k <;> by_cases gb : cb = k
      · subst ga; subst gb
        exact parts_first_ee Aa Ab n nb cb a2 _ _ w (ra.take n) (rb.take n) lx ly (by omega) (by omega) (by omega) h2.1 h2.2 h3 hk hkn
      · subst ga
        exact parts_first_en Aa Ab cb n nb ca a2 _ _ w (ra.take n) (rb.take n) lx ly (by omega) (by omega) (by omega) h2.1 h2.2 h3 gb hk hkn
      · subst gb
        exact parts_first_ne Aa Ab ca n nb cb a2 _ _ w (ra.take n) (rb.take n) lx ly (by omega) (by omega) (by omega) h2.1 h2.2 h3 ga hk hkn
      · exact parts_first_nn Aa Ab ca cb n nb k a2 _ _ w (ra.take n) (rb.take n) lx ly (by omega) (by omega) (by omega) h2.1 h2.2 h3 ga gb hk hkn
    · subst h1
      by_cases ga : ca = k <;> by_cases gb : cb = k
      · subst ga; subst gb
        exact parts_second_ee Aa Ab na n cb a2 _ _ w (ra.take n) (rb.take n) lx ly (by omega) (by omega) (by omega) h2.1 h2.2 h3 hk hkn
      · subst ga
        exact parts_second_en Aa Ab cb na n ca a2 _ _ w (ra.take n) (rb.take n) lx ly (by omega) (by omega) (by omega) h2.1 h2.2 h3 gb hk hkn
      · subst gb
        exact parts_second_ne Aa Ab ca na n cb a2 _ _ w (ra.take n) (rb.take n) lx ly (by omega) (by omega) (by omega) h2.1 h2.2 h3 ga hk hkn
      · exact parts_second_nn Aa Ab ca cb na n k a2 _ _ w (ra.take n) (rb.take n) lx ly (by omega) (by omega) (by omega) h2.1 h2.2 h3 ga gb hk hkn

end Go.Proofs.Ytbhmjmfappfjkaa
