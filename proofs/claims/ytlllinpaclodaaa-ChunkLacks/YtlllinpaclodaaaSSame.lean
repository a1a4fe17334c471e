/-
  What the document's own Same answers, of rows alike.
-/
import Derived.Test.YtlllinpaclodaaaBase
import Derived.Deep.QuietTactic
import Derived.BigQuiet
import Derived.StillTailTactics
namespace Go.Proofs.Ytlllinpaclodaaa
open Go.RowKit

theorem su_cell {w : World} {b off : Nat} {us : List UInt64} (h : ∀ j u, (us.flatMap ucells)[j]? = some u → w.cell? ⟨b, off + j, none⟩ = some u) {k : Nat} {x : UInt64} (hx : us[k]? = some x) :
    w.cell? ⟨b, off + k, none⟩ = some (.int .u64 (uz x)) := by
  have := Rg.at ucells_len h hx 0 _ rfl
  rwa [Nat.mul_one] at this
set_option maxHeartbeats 400000 in
theorem ssame_core (A B : Option Addr) (cA cB n : Nat) (us : List UInt64) (w : World) (hx : Rg ucells w A us) (hy : Rg ucells w B us) (lx : n = us.length) (hn : n ≤ 1000000) :
    Calls Try.prog 18 #[.slice A n cA, .slice B n cB] w fun e w' => e = .returned (.bool true) ∧ Below w.heap.size w w' := by
  have HX := Lib.hid hx; clear hx
  have HY := Lib.hid hy; clear hy
  have LX := Lib.hid lx; clear lx
  have hne : ((n : Int) != (n : Int)) = false := by simp
  go_enter Try.func18, Try.ntmps18
  go_wp2_with fail
  go_loopw [5] (fun i wr => ∃ k : Nat, k ≤ n ∧ i = .int .i64 k ∧ Hid (Below w.heap.size w wr)) (fun i _ => n - (intOf i).toNat)
  case atStart => exact ⟨0, Nat.zero_le _, rfl, Below.refl _ _⟩
  case round =>
    obtain ⟨k, hk, rfl, HB⟩ := hrel
    by_cases hlt : k < n
    · obtain ⟨b1, o1, rfl, l1, c1⟩ := HX.out (by rw [← LX.out]; omega)
      obtain ⟨b2, o2, rfl, l2, c2⟩ := HY.out (by rw [← LX.out]; omega)
      obtain ⟨x, hxe⟩ : ∃ x, us[k]? = some x := ⟨_, List.getElem?_eq_getElem (by rw [← LX.out]; exact hlt)⟩
      have d1 := (HB.out.cell (p := ⟨b1, o1 + k, none⟩) l1).trans (su_cell c1 hxe)
      have d2 := (HB.out.cell (p := ⟨b2, o2 + k, none⟩) l2).trans (su_cell c2 hxe)
      clear c1 c2 hxe
      have hxx : (uz x != uz x) = false := by simp
      go_wp2_with fail
      go_quiet (fail)
      go_wp2_with fail
      go_roundw
      case rel => exact ⟨k + 1, by omega, by go_num, below_drewN HB.out _⟩
      case measure => simp [intOf]; omega
    · go_wp2
      go_ret
      exact ⟨rfl, HB.out⟩
theorem ssame (A B : Option Addr) (cA cB na nb : Nat) (xs ys : List UInt64) (w : World) (hx : Rg ucells w A xs) (hy : Rg ucells w B ys) (lx : na = xs.length) (ly : nb = ys.length) (hn : na ≤ 1000000) (he : xs = ys) :
    Calls Try.prog 18 #[.slice A na cA, .slice B nb cB] w fun e w' => e = .returned (.bool true) ∧ Below w.heap.size w w' := by
  subst he
  obtain rfl : nb = na := by rw [lx, ly]
  exact ssame_core A B cA cB nb xs w hx hy lx hn

end Go.Proofs.Ytlllinpaclodaaa
