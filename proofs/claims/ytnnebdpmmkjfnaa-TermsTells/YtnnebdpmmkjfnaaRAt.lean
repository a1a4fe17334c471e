/-
  What the document's own At answers.
-/
import Derived.Test.YtnnebdpmmkjfnaaSpot
import Derived.Test.YtnnebdpmmkjfnaaRefS
namespace Go.Proofs.Ytnnebdpmmkjfnaa
open Go.RowKit

/-- A shape that lies in memory. -/
def Box (w : World) (b : Nat) (c h x : Int) : Prop :=
  b < w.heap.size ∧ w.cell? ⟨b, 0, none⟩ = some (.int .i64 c) ∧ w.cell? ⟨b, 1, none⟩ = some (.int .i64 h) ∧ w.cell? ⟨b, 2, none⟩ = some (.int .i64 x)
theorem Box.below {w w' : World} {b : Nat} {c h x : Int} (p : Box w b c h x) (hb : Below w.heap.size w w') : Box w' b c h x :=
  ⟨Nat.lt_of_lt_of_le p.1 hb.size, (hb.cell (p := ⟨b, 0, none⟩) p.1).trans p.2.1, (hb.cell (p := ⟨b, 1, none⟩) p.1).trans p.2.2.1, (hb.cell (p := ⟨b, 2, none⟩) p.1).trans p.2.2.2⟩
theorem Box.alloc {w : World} {b : Nat} {c h x : Int} (p : Box w b c h x) (o : Obj) : Box (w.alloc o) b c h x :=
  p.below ((Below.refl _ _).alloc (Nat.le_refl _) _)
theorem Box.new (w : World) (c h x : Int) : Box (w.alloc (.cells #[.int .i64 c, .int .i64 h, .int .i64 x] 23)) w.heap.size c h x :=
  ⟨by simp, by go_simp, by go_simp, by go_simp⟩
set_option maxHeartbeats 2000000 in
theorem rat_any (c h x k y z : Int) (w : World) :
    Calls Try.prog 55 #[.agg #[.int .i64 c, .int .i64 h, .int .i64 x], .int .i64 k, .int .i64 y, .int .i64 z] w fun e w' => e = .returned (.int .i64 (atI c h x k y z)) ∧ Below w.heap.size w w' := by
  cases r : rightB c h x
  · have HS := Lib.hid (atI_no (insideB_wrong (k := k) (y := y) (x := z) r))
    have HR := Lib.hid r; clear r
    go_enter Try.func55, Try.ntmps55
    go_wp2_with fail
    refine (rright_no c h x _ HR.out).mono ?_
    rintro e w1 ⟨rfl, hb1⟩
    have HB1 : Hid (Below w.heap.size w w1) := chain (by repeat first | exact Below.refl _ _ | refine chain_alloc ?_ _) hb1
    have X1 : Box w1 w.heap.size c h x := Box.below (Box.new _ _ _ _) hb1
    clear hb1
    obtain ⟨l1, c1, d1, f1⟩ := id X1
    go_wp2_with fail
    go_ret
    exact ⟨ret_int HS.out.symm, HB1.out⟩
  have HR := Lib.hid r
  by_cases p0 : k < 0
  · have HS : Hid (atI c h x k y z = -1) := atI_no (insideB_no (by omega))
    clear r
    go_enter Try.func55, Try.ntmps55
    go_wp2_with fail
    refine (rright_yes c h x _ HR.out).mono ?_
    rintro e w1 ⟨rfl, hb1⟩
    have HB1 : Hid (Below w.heap.size w w1) := chain (by repeat first | exact Below.refl _ _ | refine chain_alloc ?_ _) hb1
    have X1 : Box w1 w.heap.size c h x := Box.below (Box.new _ _ _ _) hb1
    clear hb1
    obtain ⟨l1, c1, d1, f1⟩ := id X1
    go_wp2_with fail
    go_ret
    exact ⟨ret_int HS.out.symm, HB1.out⟩
  replace p0 : 0 ≤ k := by omega
  by_cases p1 : c ≤ k
  · have HS : Hid (atI c h x k y z = -1) := atI_no (insideB_no (by omega))
    clear r
    go_enter Try.func55, Try.ntmps55
    go_wp2_with fail
    refine (rright_yes c h x _ HR.out).mono ?_
    rintro e w1 ⟨rfl, hb1⟩
    have HB1 : Hid (Below w.heap.size w w1) := chain (by repeat first | exact Below.refl _ _ | refine chain_alloc ?_ _) hb1
    have X1 : Box w1 w.heap.size c h x := Box.below (Box.new _ _ _ _) hb1
    clear hb1
    obtain ⟨l1, c1, d1, f1⟩ := id X1
    go_wp2_with fail
    go_ret
    exact ⟨ret_int HS.out.symm, HB1.out⟩
  replace p1 : k < c := by omega
  by_cases p2 : y < 0
  · have HS : Hid (atI c h x k y z = -1) := atI_no (insideB_no (by omega))
    clear r
    go_enter Try.func55, Try.ntmps55
    go_wp2_with fail
    refine (rright_yes c h x _ HR.out).mono ?_
    rintro e w1 ⟨rfl, hb1⟩
    have HB1 : Hid (Below w.heap.size w w1) := chain (by repeat first | exact Below.refl _ _ | refine chain_alloc ?_ _) hb1
    have X1 : Box w1 w.heap.size c h x := Box.below (Box.new _ _ _ _) hb1
    clear hb1
    obtain ⟨l1, c1, d1, f1⟩ := id X1
    go_wp2_with fail
    go_ret
    exact ⟨ret_int HS.out.symm, HB1.out⟩
  replace p2 : 0 ≤ y := by omega
  by_cases p3 : h ≤ y
  · have HS : Hid (atI c h x k y z = -1) := atI_no (insideB_no (by omega))
    clear r
    go_enter Try.func55, Try.ntmps55
    go_wp2_with fail
    refine (rright_yes c h x _ HR.out).mono ?_
    rintro e w1 ⟨rfl, hb1⟩
    have HB1 : Hid (Below w.heap.size w w1) := chain (by repeat first | exact Below.refl _ _ | refine chain_alloc ?_ _) hb1
    have X1 : Box w1 w.heap.size c h x := Box.below (Box.new _ _ _ _) hb1
    clear hb1
    obtain ⟨l1, c1, d1, f1⟩ := id X1
    go_wp2_with fail
    go_ret
    exact ⟨ret_int HS.out.symm, HB1.out⟩
  replace p3 : y < h := by omega
  by_cases p4 : z < 0
  · have HS : Hid (atI c h x k y z = -1) := atI_no (insideB_no (by omega))
    clear r
    go_enter Try.func55, Try.ntmps55
    go_wp2_with fail
    refine (rright_yes c h x _ HR.out).mono ?_
    rintro e w1 ⟨rfl, hb1⟩
    have HB1 : Hid (Below w.heap.size w w1) := chain (by repeat first | exact Below.refl _ _ | refine chain_alloc ?_ _) hb1
    have X1 : Box w1 w.heap.size c h x := Box.below (Box.new _ _ _ _) hb1
    clear hb1
    obtain ⟨l1, c1, d1, f1⟩ := id X1
    go_wp2_with fail
    go_ret
    exact ⟨ret_int HS.out.symm, HB1.out⟩
  replace p4 : 0 ≤ z := by omega
  by_cases p5 : x ≤ z
  · have HS : Hid (atI c h x k y z = -1) := atI_no (insideB_no (by omega))
    clear r
    go_enter Try.func55, Try.ntmps55
    go_wp2_with fail
    refine (rright_yes c h x _ HR.out).mono ?_
    rintro e w1 ⟨rfl, hb1⟩
    have HB1 : Hid (Below w.heap.size w w1) := chain (by repeat first | exact Below.refl _ _ | refine chain_alloc ?_ _) hb1
    have X1 : Box w1 w.heap.size c h x := Box.below (Box.new _ _ _ _) hb1
    clear hb1
    obtain ⟨l1, c1, d1, f1⟩ := id X1
    go_wp2_with fail
    go_ret
    exact ⟨ret_int HS.out.symm, HB1.out⟩
  replace p5 : z < x := by omega
  have s := insideB_yes r ⟨p0, p1, p2, p3, p4, p5⟩
  obtain ⟨b1, b2, b3, b4, b5, b6⟩ := at_small s
  obtain ⟨a1, a2, a3, a4, a5, a6, a7⟩ := rightB_out r
  have HS := Lib.hid (atI_yes s)
  clear s r
  go_enter Try.func55, Try.ntmps55
  go_wp2_with fail
  refine (rright_yes c h x _ HR.out).mono ?_
  rintro e w1 ⟨rfl, hb1⟩
  have HB1 : Hid (Below w.heap.size w w1) := chain (by repeat first | exact Below.refl _ _ | refine chain_alloc ?_ _) hb1
  have X1 : Box w1 w.heap.size c h x := Box.below (Box.new _ _ _ _) hb1
  clear hb1
  obtain ⟨l1, c1, d1, f1⟩ := id X1
  go_wp2_with fail
  go_ret
  exact ⟨ret_int HS.out.symm, HB1.out⟩

end Go.Proofs.Ytnnebdpmmkjfnaa
