/-
  The live questions that each law asks first: all are answered as they must be.
-/
import Derived.Test.YtbhmjmfappfjkaaRef
import Derived.Test.YtbhmjmfappfjkaaInv
namespace Go.Proofs.Ytbhmjmfappfjkaa
open Go.RowKit

theorem chain {w W w1 : World} (h : Below w.heap.size w W) (hb : Below W.heap.size W w1) : Below w.heap.size w w1 := h.trans (hb.mono h.size)
theorem chain_alloc {w W : World} (h : Below w.heap.size w W) (o : Obj) : Below w.heap.size w (W.alloc o) := h.alloc h.size o

theorem Rd.lit (w : World) (us : List UInt64) (cs : Array Value) (h : cs = (us.map fun u => Value.int .u64 (uz u)).toArray) : Rd (w.alloc (.cells cs 23)) (some ⟨w.heap.size, 0, none⟩) us := fun _ => by
  refine ⟨w.heap.size, 0, rfl, by simp, fun j hj => ?_⟩
  subst h
  rw [cell_of_row (w.alloc _) w.heap.size (0 + j) _ 23 (0, 0) (heap_alloc_new w _)]
  simp [nth, List.getD_eq_getElem?_getD, hj]
theorem Rd.lit1 (w : World) (o : Obj) (us : List UInt64) (cs : Array Value) (h : cs = (us.map fun u => Value.int .u64 (uz u)).toArray) : Rd ((w.alloc (.cells cs 23)).alloc o) (some ⟨w.heap.size, 0, none⟩) us :=
  (Rd.lit w us cs h).below ((Below.refl _ _).alloc (Nat.le_refl _) _)
theorem Rd.lit2 (w : World) (o : Obj) (us : List UInt64) (cs : Array Value) (h : cs = (us.map fun u => Value.int .u64 (uz u)).toArray) : Rd ((w.alloc o).alloc (.cells cs 23)) (some ⟨w.heap.size + 1, 0, none⟩) us := by
  have := Rd.lit (w.alloc o) us cs h
  rw [show (w.alloc o).heap.size = w.heap.size + 1 from by simp] at this
  exact this
theorem Rd.alloc {w : World} {A : Option Addr} {us : List UInt64} (h : Rd w A us) (o : Obj) : Rd (w.alloc o) A us := h.below ((Below.refl _ _).alloc (Nat.le_refl _) _)

theorem Rd.lit3 (w : World) (o o' : Obj) (us : List UInt64) (cs : Array Value) (h : cs = (us.map fun u => Value.int .u64 (uz u)).toArray) : Rd (((w.alloc o).alloc o').alloc (.cells cs 23)) (some ⟨w.heap.size + 1 + 1, 0, none⟩) us := by
  have := Rd.lit2 (w.alloc o) o' us cs h
  rw [show (w.alloc o).heap.size = w.heap.size + 1 from by simp] at this
  exact this

theorem inverse_three (w : World) : Calls Try.prog 12 #[.int .u64 3] w fun e w' => e = .returned (.tuple #[.int .u64 12297829382473034411, .bool true]) ∧ w = w' := by
  have h := inverse_odd 3 w (by decide)
  have e : uz (uinv 3) = 12297829382473034411 := by decide +kernel
  rw [e] at h
  exact h
theorem inverse_six (w : World) : Calls Try.prog 12 #[.int .u64 6] w fun e w' => e = .returned (.tuple #[.int .u64 0, .bool false]) ∧ w = w' :=
  inverse_even 6 w (by decide)
theorem scale_three (A : Option Addr) (cA : Nat) (w : World) (hx : Rd w A [1, 2]) : Calls Try.prog 21 #[.int .u64 3, .slice A 2 cA] w (Row [3, 6] w) :=
  scale_any 3 A cA 2 [1, 2] w hx rfl (by omega)
theorem sum_fifteen (A : Option Addr) (cA : Nat) (w : World) (hx : Rd w A [4, 5, 6]) : Calls Try.prog 23 #[.slice A 3 cA] w fun e w' => e = .returned (.int .u64 15) ∧ w = w' :=
  sum_any A cA 3 [4, 5, 6] w hx rfl (by omega)
theorem sum_nought (w : World) : Calls Try.prog 23 #[.slice none 0 0] w fun e w' => e = .returned (.int .u64 0) ∧ w = w' :=
  sum_any none 0 0 [] w (Rd.nil _ _) rfl (by omega)
theorem dot_fourteen (A B : Option Addr) (cA cB : Nat) (w : World) (hx : Rd w A [1, 2, 3]) (hy : Rd w B [4, 5]) : Calls Try.prog 25 #[.slice A 3 cA, .slice B 2 cB] w fun e w' => e = .returned (.int .u64 14) ∧ Below w.heap.size w w' :=
  dot_any A B cA cB 3 2 [1, 2, 3] [4, 5] w hx hy rfl rfl (by omega)

set_option maxHeartbeats 2000000 in
set_option maxRecDepth 100000 in
theorem head_any (w : World) : Calls Try.prog 10 #[] w fun e w' => e = .returned (.bool true) ∧ Below w.heap.size w w' := by
  have HB0 : Hid (Below w.heap.size w w) := Below.refl _ _
  go_enter Try.func10, Try.ntmps10
  go_wp2_with fail
  refine (inverse_three w).mono ?_
  rintro e w' ⟨rfl, rfl⟩
  go_wp2_with fail
  refine (inverse_six w).mono ?_
  rintro e w0 ⟨rfl, rfl⟩
  go_wp2_with fail
  refine (add_any (some ⟨w.heap.size, 0, none⟩) (some ⟨w.heap.size + 1, 0, none⟩) 2 1 2 1 [1, 2] [18446744073709551615] _ ?_ ?_ rfl rfl (by omega)).mono ?_
  · exact Rd.lit1 w _ [1, 2] _ rfl
  · exact Rd.lit2 w _ [18446744073709551615] _ rfl
  rintro e w1 ⟨A1, c1, n1, hn1, rfl, hr1, hb1⟩
  rw [show List.zipWith (· + ·) ([1, 2] : List UInt64) [18446744073709551615] = [0] from by decide] at hn1 hr1
  obtain rfl : n1 = 1 := hn1
  have HB1 : Hid (Below w.heap.size w w1) := chain (by repeat first | exact HB0.out | refine chain_alloc ?_ _) hb1
  have HR1 := Lib.hid hr1; clear hr1 hb1 HB0
  go_wp2_with fail
  refine (same_any A1 (some ⟨w1.heap.size, 0, none⟩) c1 1 1 1 [0] [0] _ ?_ ?_ rfl rfl (by omega) rfl).mono ?_
  · exact HR1.out.alloc _
  · exact Rd.lit w1 [0] _ rfl
  rintro e w2 ⟨rfl, hb2⟩
  have HB2 : Hid (Below w.heap.size w w2) := chain (by repeat first | exact HB1.out | refine chain_alloc ?_ _) hb2
  clear hb2 HR1 HB1
  go_wp2_with fail
  refine (sub_any (some ⟨w2.heap.size, 0, none⟩) (some ⟨w2.heap.size + 1, 0, none⟩) 1 2 1 2 [1] [2, 3] _ ?_ ?_ rfl rfl (by omega)).mono ?_
  · exact Rd.lit1 w2 _ [1] _ rfl
  · exact Rd.lit2 w2 _ [2, 3] _ rfl
  rintro e w3 ⟨A3, c3, n3, hn3, rfl, hr3, hb3⟩
  rw [show List.zipWith (· - ·) ([1] : List UInt64) [2, 3] = [18446744073709551615] from by decide] at hn3 hr3
  obtain rfl : n3 = 1 := hn3
  have HB3 : Hid (Below w.heap.size w w3) := chain (by repeat first | exact HB2.out | refine chain_alloc ?_ _) hb3
  have HR3 := Lib.hid hr3; clear hr3 hb3 HB2
  go_wp2_with fail
  refine (same_any A3 (some ⟨w3.heap.size, 0, none⟩) c3 1 1 1 [18446744073709551615] [18446744073709551615] _ ?_ ?_ rfl rfl (by omega) rfl).mono ?_
  · exact HR3.out.alloc _
  · exact Rd.lit w3 [18446744073709551615] _ rfl
  rintro e w4 ⟨rfl, hb4⟩
  have HB4 : Hid (Below w.heap.size w w4) := chain (by repeat first | exact HB3.out | refine chain_alloc ?_ _) hb4
  clear hb4 HR3 HB3
  go_wp2_with fail
  refine (mul_any (some ⟨w4.heap.size, 0, none⟩) (some ⟨w4.heap.size + 1, 0, none⟩) 2 2 2 2 [9223372036854775808, 5] [2, 5] _ ?_ ?_ rfl rfl (by omega)).mono ?_
  · exact Rd.lit1 w4 _ [9223372036854775808, 5] _ rfl
  · exact Rd.lit2 w4 _ [2, 5] _ rfl
  rintro e w5 ⟨A5, c5, n5, hn5, rfl, hr5, hb5⟩
  rw [show List.zipWith (· * ·) ([9223372036854775808, 5] : List UInt64) [2, 5] = [0, 25] from by decide] at hn5 hr5
  obtain rfl : n5 = 2 := hn5
  have HB5 : Hid (Below w.heap.size w w5) := chain (by repeat first | exact HB4.out | refine chain_alloc ?_ _) hb5
  have HR5 := Lib.hid hr5; clear hr5 hb5 HB4
  go_wp2_with fail
  refine (same_any A5 (some ⟨w5.heap.size, 0, none⟩) c5 2 2 2 [0, 25] [0, 25] _ ?_ ?_ rfl rfl (by omega) rfl).mono ?_
  · exact HR5.out.alloc _
  · exact Rd.lit w5 [0, 25] _ rfl
  rintro e w6 ⟨rfl, hb6⟩
  have HB6 : Hid (Below w.heap.size w w6) := chain (by repeat first | exact HB5.out | refine chain_alloc ?_ _) hb6
  clear hb6 HR5 HB5
  go_wp2_with fail
  refine (scale_three (some ⟨w6.heap.size, 0, none⟩) 2 _ ?_).mono ?_
  · exact Rd.lit w6 [1, 2] _ rfl
  rintro e w7 ⟨A7, c7, n7, hn7, rfl, hr7, hb7⟩
  obtain rfl : n7 = 2 := hn7
  have HB7 : Hid (Below w.heap.size w w7) := chain (by repeat first | exact HB6.out | refine chain_alloc ?_ _) hb7
  have HR7 := Lib.hid hr7; clear hr7 hb7 HB6
  go_wp2_with fail
  refine (same_any A7 (some ⟨w7.heap.size, 0, none⟩) c7 2 2 2 [3, 6] [3, 6] _ ?_ ?_ rfl rfl (by omega) rfl).mono ?_
  · exact HR7.out.alloc _
  · exact Rd.lit w7 [3, 6] _ rfl
  rintro e w8 ⟨rfl, hb8⟩
  have HB8 : Hid (Below w.heap.size w w8) := chain (by repeat first | exact HB7.out | refine chain_alloc ?_ _) hb8
  clear hb8 HR7 HB7
  go_wp2_with fail
  refine (sum_fifteen (some ⟨w8.heap.size, 0, none⟩) 3 _ ?_).mono ?_
  · exact Rd.lit w8 [4, 5, 6] _ rfl
  rintro e w' ⟨rfl, rfl⟩
  go_wp2_with fail
  refine (sum_nought _).mono ?_
  rintro e w' ⟨rfl, rfl⟩
  go_wp2_with fail
  refine (dot_fourteen (some ⟨w8.heap.size + 1, 0, none⟩) (some ⟨w8.heap.size + 1 + 1, 0, none⟩) 3 2 _ ?_ ?_).mono ?_
  · exact (Rd.lit2 w8 _ [1, 2, 3] _ rfl).alloc _
  · exact Rd.lit3 w8 _ _ [4, 5] _ rfl
  rintro e w9 ⟨rfl, hb9⟩
  have HB9 : Hid (Below w.heap.size w w9) := chain (by repeat first | exact HB8.out | refine chain_alloc ?_ _) hb9
  clear hb9 HB8
  go_wp2_with fail
  go_ret
  exact ⟨rfl, HB9.out⟩

end Go.Proofs.Ytbhmjmfappfjkaa
