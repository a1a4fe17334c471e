/-
  What the document's own At answers. What the document's own Of answers.
-/
import Derived.Test.YtnfmpladdfgadaaSpot
import Derived.Test.YtnfmpladdfgadaaRefS
import Derived.Test.YtnfmpladdfgadaaOf
import Derived.Deep.LoopGhost
namespace Go.Proofs.Ytnfmpladdfgadaa
open Go.RowKit

/-- A shape that lies in memory. -/
def Box (w : World) (b : Nat) (c h x : Int) : Prop :=
  b < w.heap.size ∧ w.cell? ⟨b, 0, none⟩ = some (.int .i64 c) ∧ w.cell? ⟨b, 1, none⟩ = some (.int .i64 h) ∧ w.cell? ⟨b, 2, none⟩ = some (.int .i64 x)
theorem Box.below {w w' : World} {b : Nat} {c h x : Int} (p : Box w b c h x) (hb : Below w.heap.size w w') : Box w' b c h x :=
  ⟨Nat.lt_of_lt_of_le p.1 hb.size, (hb.cell (p := ⟨b, 0, none⟩) p.1).trans p.2.1, (hb.cell (p := ⟨b, 1, none⟩) p.1).trans p.2.2.1, (hb.cell (p := ⟨b, 2, none⟩) p.1).trans p.2.2.2⟩
theorem Box.alloc {w : World} {b : Nat} {c h x : Int} (p : Box w b c h x) (o : Obj) : Box (w.alloc o) b c h x :=
  p.below ((Below.refl _ _).alloc (Nat.le_refl _) _)
theorem Box.new (w : World) (c h x : Int) : Box (w.alloc (.cells #[.int .i64 c, .int .i64 h, .int .i64 x] 23)) w.heap.size c h x :=
  ⟨by simp, by go_simp, by go_simp, by go_simp⟩
set_option maxHeartbeats 2000000 in
theorem rat_any (c h x k y z : Int) (w : World) :
    Calls Try.prog 71 #[.agg #[.int .i64 c, .int .i64 h, .int .i64 x], .int .i64 k, .int .i64 y, .int .i64 z] w fun e w' => e = .returned (.int .i64 (atI c h x k y z)) ∧ Below w.heap.size w w' := by
  cases r : rightB c h x
  · have HS := Lib.hid (atI_no (insideB_wrong (k := k) (y := y) (x := z) r))
    have HR := Lib.hid r; clear r
    go_enter Try.func71, Try.ntmps71
    go_wp2_with fail
    refine (rright_no c h x _ HR.out).mono ?_
    rintro e w1 ⟨rfl, hb1⟩
    have HB1 : Hid (Below w.heap.size w w1) := chain (by repeat first | exact Below.refl _ _ | refine chain_alloc ?_ _) hb1
    have X1 : Box w1 w.heap.size c h x := Box.below (Box.new _ _ _ _) hb1
    clear hb1
    obtain ⟨l1, c1, d1, f1⟩ := id X1
    go_wp2_with fail
    go_ret
    exact ⟨ret_int HS.out.symm, HB1.out⟩
  have HR := Lib.hid r
  by_cases p0 : k < 0
  · have HS : Hid (atI c h x k y z = -1) := atI_no (insideB_no (by omega))
    clear r
    go_enter Try.func71, Try.ntmps71
    go_wp2_with fail
    refine (rright_yes c h x _ HR.out).mono ?_
    rintro e w1 ⟨rfl, hb1⟩
    have HB1 : Hid (Below w.heap.size w w1) := chain (by repeat first | exact Below.refl _ _ | refine chain_alloc ?_ _) hb1
    have X1 : Box w1 w.heap.size c h x := Box.below (Box.new _ _ _ _) hb1
    clear hb1
    obtain ⟨l1, c1, d1, f1⟩ := id X1
    go_wp2_with fail
    go_ret
    exact ⟨ret_int HS.out.symm, HB1.out⟩
  replace p0 : 0 ≤ k := by omega
  by_cases p1 : c ≤ k
  · have HS : Hid (atI c h x k y z = -1) := atI_no (insideB_no (by omega))
    clear r
    go_enter Try.func71, Try.ntmps71
    go_wp2_with fail
    refine (rright_yes c h x _ HR.out).mono ?_
    rintro e w1 ⟨rfl, hb1⟩
    have HB1 : Hid (Below w.heap.size w w1) := chain (by repeat first | exact Below.refl _ _ | refine chain_alloc ?_ _) hb1
    have X1 : Box w1 w.heap.size c h x := Box.below (Box.new _ _ _ _) hb1
    clear hb1
    obtain ⟨l1, c1, d1, f1⟩ := id X1
    go_wp2_with fail
    go_ret
    exact ⟨ret_int HS.out.symm, HB1.out⟩
  replace p1 : k < c := by omega
  by_cases p2 : y < 0
  · have HS : Hid (atI c h x k y z = -1) := atI_no (insideB_no (by omega))
    clear r
    go_enter Try.func71, Try.ntmps71
    go_wp2_with fail
    refine (rright_yes c h x _ HR.out).mono ?_
    rintro e w1 ⟨rfl, hb1⟩
    have HB1 : Hid (Below w.heap.size w w1) := chain (by repeat first | exact Below.refl _ _ | refine chain_alloc ?_ _) hb1
    have X1 : Box w1 w.heap.size c h x := Box.below (Box.new _ _ _ _) hb1
    clear hb1
    obtain ⟨l1, c1, d1, f1⟩ := id X1
    go_wp2_with fail
    go_ret
    exact ⟨ret_int HS.out.symm, HB1.out⟩
  replace p2 : 0 ≤ y := by omega
  by_cases p3 : h ≤ y
  · have HS : Hid (atI c h x k y z = -1) := atI_no (insideB_no (by omega))
    clear r
    go_enter Try.func71, Try.ntmps71
    go_wp2_with fail
    refine (rright_yes c h x _ HR.out).mono ?_
    rintro e w1 ⟨rfl, hb1⟩
    have HB1 : Hid (Below w.heap.size w w1) := chain (by repeat first | exact Below.refl _ _ | refine chain_alloc ?_ _) hb1
    have X1 : Box w1 w.heap.size c h x := Box.below (Box.new _ _ _ _) hb1
    clear hb1
    obtain ⟨l1, c1, d1, f1⟩ := id X1
    go_wp2_with fail
    go_ret
    exact ⟨ret_int HS.out.symm, HB1.out⟩
  replace p3 : y < h := by omega
  by_cases p4 : z < 0
  · have HS : Hid (atI c h x k y z = -1) := atI_no (insideB_no (by omega))
    clear r
    go_enter Try.func71, Try.ntmps71
    go_wp2_with fail
    refine (rright_yes c h x _ HR.out).mono ?_
    rintro e w1 ⟨rfl, hb1⟩
    have HB1 : Hid (Below w.heap.size w w1) := chain (by repeat first | exact Below.refl _ _ | refine chain_alloc ?_ _) hb1
    have X1 : Box w1 w.heap.size c h x := Box.below (Box.new _ _ _ _) hb1
    clear hb1
    obtain ⟨l1, c1, d1, f1⟩ := id X1
    go_wp2_with fail
    go_ret
    exact ⟨ret_int HS.out.symm, HB1.out⟩
  replace p4 : 0 ≤ z := by omega
  by_cases p5 : x ≤ z
  · have HS : Hid (atI c h x k y z = -1) := atI_no (insideB_no (by omega))
    clear r
    go_enter Try.func71, Try.ntmps71
    go_wp2_with fail
    refine (rright_yes c h x _ HR.out).mono ?_
    rintro e w1 ⟨rfl, hb1⟩
    have HB1 : Hid (Below w.heap.size w w1) := chain (by repeat first | exact Below.refl _ _ | refine chain_alloc ?_ _) hb1
    have X1 : Box w1 w.heap.size c h x := Box.below (Box.new _ _ _ _) hb1
    clear hb1
    obtain ⟨l1, c1, d1, f1⟩ := id X1
    go_wp2_with fail
    go_ret
    exact ⟨ret_int HS.out.symm, HB1.out⟩
  replace p5 : z < x := by omega
  have s := insideB_yes r ⟨p0, p1, p2, p3, p4, p5⟩
  obtain ⟨b1, b2, b3, b4, b5, b6⟩ := at_small s
  obtain ⟨a1, a2, a3, a4, a5, a6, a7⟩ := rightB_out r
  have HS := Lib.hid (atI_yes s)
  clear s r
  go_enter Try.func71, Try.ntmps71
  go_wp2_with fail
  refine (rright_yes c h x _ HR.out).mono ?_
  rintro e w1 ⟨rfl, hb1⟩
  have HB1 : Hid (Below w.heap.size w w1) := chain (by repeat first | exact Below.refl _ _ | refine chain_alloc ?_ _) hb1
  have X1 : Box w1 w.heap.size c h x := Box.below (Box.new _ _ _ _) hb1
  clear hb1
  obtain ⟨l1, c1, d1, f1⟩ := id X1
  go_wp2_with fail
  go_ret
  exact ⟨ret_int HS.out.symm, HB1.out⟩

end Go.Proofs.Ytnfmpladdfgadaa

namespace Go.Proofs.Ytnfmpladdfgadaa
open Go.RowKit

/-- A number's channel, row and column are handed out. -/
def Told (c h x i : Int) (w : World) (e : Ending) (w' : World) : Prop :=
  e = .returned (.tuple #[.int .i64 (chI c h x i), .int .i64 (rowI c h x i), .int .i64 (colI c h x i), .bool (hasB c h x i)]) ∧ Below w.heap.size w w'
set_option maxHeartbeats 1000000 in
theorem rof_wrong (c h x i : Int) (w : World) (r : rightB c h x = false) :
    Calls Try.prog 70 #[.agg #[.int .i64 c, .int .i64 h, .int .i64 x], .int .i64 i] w (Told c h x i w) := by
  have n : hasB c h x i = false := hasB_no (by rw [sizeI_no r]; omega)
  have HS := Lib.hid (of_no n)
  have HN := Lib.hid n; clear n
  have HR := Lib.hid r; clear r
  have HB : Hid (Below w.heap.size w (w.alloc (.cells #[.int .i64 c, .int .i64 h, .int .i64 x] 23))) := (Below.refl _ _).alloc (Nat.le_refl _) _
  by_cases hc : 0 < c
  · go_enter Try.func70, Try.ntmps70
    go_wp2_with fail
    go_loopg [8] 1 (fun _ k wx => k = .int .i64 0 ∧ wx = w.alloc (.cells #[.int .i64 c, .int .i64 h, .int .i64 x] 23))
    case atStart => exact ⟨rfl, rfl⟩
    case round =>
      obtain ⟨rfl, rfl⟩ := hrel
      go_wp2_with fail
      refine (rright_no c h x _ HR.out).mono ?_
      rintro e w1 ⟨rfl, hb1⟩
      have HB1 : Hid (Below w.heap.size w w1) := chain HB.out hb1
      clear hb1
      go_wp2_with fail
      refine bodyPost_ret (four_out rfl _ _ _) rfl ?_
      exact ⟨ret_of ⟨HS.out.1.symm, HS.out.2.1.symm, HS.out.2.2.symm, HN.out.symm⟩, HB1.out⟩
  · have hc' : c ≤ 0 := by omega
    go_enter Try.func70, Try.ntmps70
    go_wp2_with fail
    go_loopg [8] 1 (fun _ k wx => k = .int .i64 0 ∧ wx = w.alloc (.cells #[.int .i64 c, .int .i64 h, .int .i64 x] 23))
    case atStart => exact ⟨rfl, rfl⟩
    case round =>
      obtain ⟨rfl, rfl⟩ := hrel
      go_wp2_with fail
      refine bodyPost_ret (four_out rfl _ _ _) rfl ?_
      exact ⟨ret_of ⟨HS.out.1.symm, HS.out.2.1.symm, HS.out.2.2.symm, HN.out.symm⟩, HB.out⟩
/-- No place below p is i. -/
def Past (i p : Int) : Prop := ¬ (0 ≤ i ∧ i < p)
theorem rat_in (c h x k y z : Int) (p : Int) (e : insideB c h x k y z = true) (f : p = (k * h + y) * x + z) (w : World) :
    Calls Try.prog 71 #[.agg #[.int .i64 c, .int .i64 h, .int .i64 x], .int .i64 k, .int .i64 y, .int .i64 z] w fun e w' => e = .returned (.int .i64 p) ∧ Below w.heap.size w w' := by
  have := rat_any c h x k y z w
  rwa [atI_yes e, ← f] at this
set_option maxHeartbeats 2000000 in
theorem rof_right (c h x i : Int) (w : World) (r : rightB c h x = true) :
    Calls Try.prog 70 #[.agg #[.int .i64 c, .int .i64 h, .int .i64 x], .int .i64 i] w (Told c h x i w) := by
  obtain ⟨a1, a2, a3, a4, a5, a6, a7⟩ := rightB_out r
  have HR := Lib.hid r; clear r
  have HB : Hid (Below w.heap.size w (w.alloc (.cells #[.int .i64 c, .int .i64 h, .int .i64 x] 23))) := (Below.refl _ _).alloc (Nat.le_refl _) _
  go_enter Try.func70, Try.ntmps70
  go_wp2_with fail
  go_loopg [8] c.toNat (fun g s8 wx => ∃ k : Int, 0 ≤ k ∧ k ≤ c ∧ Hid (g = (c - k).toNat) ∧ s8 = .int .i64 k ∧ Past i (k * h * x) ∧ Hid (Below w.heap.size w wx) ∧ Box wx w.heap.size c h x)
  case atStart => exact ⟨0, by omega, by omega, by show _ = _; omega, rfl, by unfold Past; rw [Int.zero_mul, Int.zero_mul]; omega, HB, Box.new _ _ _ _⟩
  case round =>
    obtain ⟨k, k0, k1, HG, rfl, hp, HBk, X⟩ := hrel
    obtain ⟨l1, c1, d1, f1⟩ := id X
    by_cases kc : k < c
    · go_wp2_with fail
      refine (rright_yes c h x _ HR.out).mono ?_
      rintro e w1 ⟨rfl, hb1⟩
      have HB1 : Hid (Below w.heap.size w w1) := chain HBk.out hb1
      have X1 : Box w1 w.heap.size c h x := X.below hb1
      clear hb1 HBk X l1 c1 d1 f1
      go_wp2_with fail
      go_loopg [9] h.toNat (fun g s9 wx => ∃ y : Int, 0 ≤ y ∧ y ≤ h ∧ Hid (g = (h - y).toNat) ∧ s9 = .int .i64 y ∧ Past i ((k * h + y) * x) ∧ Hid (Below w.heap.size w wx) ∧ Box wx w.heap.size c h x)
      case atStart => exact ⟨0, by omega, by omega, by show _ = _; omega, rfl, by rw [Int.add_zero]; exact hp, HB1, X1⟩
      case round =>
        obtain ⟨y, y0, y1, HG1, rfl, hp1, HBy, Xy⟩ := hrel
        obtain ⟨l1, c1, d1, f1⟩ := id Xy
        by_cases yh : y < h
        · go_wp2_with fail
          go_loopg [10] x.toNat (fun g s10 wx => ∃ z : Int, 0 ≤ z ∧ z ≤ x ∧ Hid (g = (x - z).toNat) ∧ s10 = .int .i64 z ∧ Past i ((k * h + y) * x + z) ∧ Hid (Below w.heap.size w wx) ∧ Box wx w.heap.size c h x)
          case atStart => exact ⟨0, by omega, by omega, by show _ = _; omega, rfl, by rw [Int.add_zero]; exact hp1, HBy, Xy⟩
          case round =>
            obtain ⟨z, z0, z1, HG2, rfl, hp2, HBz, Xz⟩ := hrel
            obtain ⟨l2, c2, d2, f2⟩ := id Xz
            clear l1 c1 d1 f1
            by_cases zx : z < x
            · have HI : Hid (insideB c h x k y z = true) := insideB_yes HR.out ⟨k0, kc, y0, yh, z0, zx⟩
              obtain ⟨p, HP⟩ : ∃ p : Int, Hid (p = (k * h + y) * x + z) := ⟨_, rfl⟩
              by_cases hpi : p = i
              · have hpe : (p == i) = true := by rw [hpi]; simp
                have HPI := Lib.hid hpi; clear hpi
                go_wp2_with fail
                refine (rat_in c h x k y z p HI.out HP.out _).mono ?_
                rintro e w2 ⟨rfl, hb2⟩
                have HB2 : Hid (Below w.heap.size w w2) := chain HBz.out hb2
                clear hb2
                go_wp2_with fail
                refine bodyPost_ret (four_out rfl _ _ _) rfl ?_
                have q := at_of HI.out
                rw [← HP.out, HPI.out] at q
                have q2 := of_yes q.1
                exact ⟨ret_of ⟨by rw [q2.1]; exact q.2.1.symm, by rw [q2.2.1]; exact q.2.2.1.symm, by rw [q2.2.2]; exact q.2.2.2.symm, q.1.symm⟩, HB2.out⟩
              · have hpe : (p == i) = false := by simpa using hpi
                have HPI := Lib.hid hpi; clear hpi
                go_wp2_with fail
                refine (rat_in c h x k y z p HI.out HP.out _).mono ?_
                rintro e w2 ⟨rfl, hb2⟩
                have HB2 : Hid (Below w.heap.size w w2) := chain HBz.out hb2
                have X2 : Box w2 w.heap.size c h x := Xz.below hb2
                clear hb2
                go_wp2_with fail
                go_roundg (x - (z + 1)).toNat
                case measure => have := HG2.out; omega
                case rel => exact ⟨z + 1, by omega, by omega, rfl, rfl, by have := HP.out; have := HPI.out; unfold Past at hp2 ⊢; omega, HB2, X2⟩
            · have hzx : z = x := by omega
              have HZ := Lib.hid hzx; clear hzx
              go_wp2_with fail
              go_roundg (h - (y + 1)).toNat
              case measure => have := HG1.out; omega
              case rel =>
                refine ⟨y + 1, by omega, by omega, rfl, rfl, ?_, HBz, Xz⟩
                have e : (k * h + (y + 1)) * x = (k * h + y) * x + x := by rw [← Int.add_assoc, Int.add_mul (k * h + y) 1 x, Int.one_mul]
                rw [e]
                rw [HZ.out] at hp2
                exact hp2
        · have hyh : y = h := by omega
          have HY := Lib.hid hyh; clear hyh
          go_wp2_with fail
          go_roundg (c - (k + 1)).toNat
          case measure => have := HG.out; omega
          case rel =>
            refine ⟨k + 1, by omega, by omega, rfl, rfl, ?_, HBy, Xy⟩
            have e : (k + 1) * h = k * h + h := by rw [Int.add_mul, Int.one_mul]
            rw [e]
            rw [HY.out] at hp1
            exact hp1
    · have hkc : k = c := by omega
      have n : hasB c h x i = false := hasB_no (by rw [sizeI_yes HR.out, ← hkc]; exact hp)
      have HS := Lib.hid (of_no n)
      have HN := Lib.hid n
      clear n hkc
      go_wp2_with fail
      refine bodyPost_ret (four_out rfl _ _ _) rfl ?_
      exact ⟨ret_of ⟨HS.out.1.symm, HS.out.2.1.symm, HS.out.2.2.symm, HN.out.symm⟩, HBk.out⟩
theorem rof_any (c h x i : Int) (w : World) :
    Calls Try.prog 70 #[.agg #[.int .i64 c, .int .i64 h, .int .i64 x], .int .i64 i] w (Told c h x i w) := by
  cases r : rightB c h x
  · exact rof_wrong c h x i w r
  · exact rof_right c h x i w r

end Go.Proofs.Ytnfmpladdfgadaa
