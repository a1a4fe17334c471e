/-
  What Add, Sub, Mul, Scale, Sum and Dot of package ring answer.
-/
import Derived.Test.YtbhmjmfappfjkaaRing
namespace Go.Proofs.Ytbhmjmfappfjkaa
open Go.RowKit

theorem enter28 : ∀ args w, Sem.run Try.prog (callFunc 28 args) w = .ok (.enter 28 args) w := by intro args w; go_simp
theorem enter29 : ∀ args w, Sem.run Try.prog (callFunc 29 args) w = .ok (.enter 29 args) w := by intro args w; go_simp
theorem enter30 : ∀ args w, Sem.run Try.prog (callFunc 30 args) w = .ok (.enter 30 args) w := by intro args w; go_simp
theorem enter31 : ∀ args w, Sem.run Try.prog (callFunc 31 args) w = .ok (.enter 31 args) w := by intro args w; go_simp

set_option maxHeartbeats 400000 in
theorem add_any (A B : Option Addr) (cA cB na nb : Nat) (xs ys : List UInt64) (w : World) (hx : Rd w A xs) (hy : Rd w B ys) (lx : na = xs.length) (ly : nb = ys.length) (hn : na ≤ 1000000) :
    Calls Try.prog 15 #[.slice A na cA, .slice B nb cB] w (Row (List.zipWith (· + ·) xs ys) w) := by
  have HP := Lib.hid (pair_any 28 #[] (· + ·) A B cA cB na nb xs ys w hx hy lx ly hn enter28 (fun x y w1 _ => add1_any x y w1))
  clear hx hy lx ly
  go_enter Try.func15, Try.ntmps15
  go_wp2_with fail
  refine HP.out.mono ?_
  rintro e w1 ⟨A', c', n', hn', rfl, hr, hb⟩
  have HN := Lib.hid hn'; clear hn'
  have HR := Lib.hid hr; clear hr
  have HB := Lib.hid hb; clear hb
  go_wp2_with fail
  go_ret
  exact ⟨A', c', n', HN.out, rfl, HR.out, HB.out⟩

set_option maxHeartbeats 400000 in
theorem sub_any (A B : Option Addr) (cA cB na nb : Nat) (xs ys : List UInt64) (w : World) (hx : Rd w A xs) (hy : Rd w B ys) (lx : na = xs.length) (ly : nb = ys.length) (hn : na ≤ 1000000) :
    Calls Try.prog 17 #[.slice A na cA, .slice B nb cB] w (Row (List.zipWith (· - ·) xs ys) w) := by
  have HP := Lib.hid (pair_any 29 #[] (· - ·) A B cA cB na nb xs ys w hx hy lx ly hn enter29 (fun x y w1 _ => sub1_any x y w1))
  clear hx hy lx ly
  go_enter Try.func17, Try.ntmps17
  go_wp2_with fail
  refine HP.out.mono ?_
  rintro e w1 ⟨A', c', n', hn', rfl, hr, hb⟩
  have HN := Lib.hid hn'; clear hn'
  have HR := Lib.hid hr; clear hr
  have HB := Lib.hid hb; clear hb
  go_wp2_with fail
  go_ret
  exact ⟨A', c', n', HN.out, rfl, HR.out, HB.out⟩

set_option maxHeartbeats 400000 in
theorem mul_any (A B : Option Addr) (cA cB na nb : Nat) (xs ys : List UInt64) (w : World) (hx : Rd w A xs) (hy : Rd w B ys) (lx : na = xs.length) (ly : nb = ys.length) (hn : na ≤ 1000000) :
    Calls Try.prog 19 #[.slice A na cA, .slice B nb cB] w (Row (List.zipWith (· * ·) xs ys) w) := by
  have HP := Lib.hid (pair_any 30 #[] (· * ·) A B cA cB na nb xs ys w hx hy lx ly hn enter30 (fun x y w1 _ => mul1_any x y w1))
  clear hx hy lx ly
  go_enter Try.func19, Try.ntmps19
  go_wp2_with fail
  refine HP.out.mono ?_
  rintro e w1 ⟨A', c', n', hn', rfl, hr, hb⟩
  have HN := Lib.hid hn'; clear hn'
  have HR := Lib.hid hr; clear hr
  have HB := Lib.hid hb; clear hb
  go_wp2_with fail
  go_ret
  exact ⟨A', c', n', HN.out, rfl, HR.out, HB.out⟩

theorem zip_scale (k : UInt64) (xs : List UInt64) : List.zipWith (fun x _ => k * x) xs xs = xs.map (k * ·) := by simp

set_option maxHeartbeats 400000 in
theorem scale_any (k : UInt64) (A : Option Addr) (cA na : Nat) (xs : List UInt64) (w : World) (hx : Rd w A xs) (lx : na = xs.length) (hn : na ≤ 1000000) :
    Calls Try.prog 21 #[.int .u64 (uz k), .slice A na cA] w (Row (xs.map (k * ·)) w) := by
  have hb0 : Below w.heap.size w (w.alloc (.cells #[.int .u64 (uz k)] 23)) := (Below.refl _ _).alloc (Nat.le_refl _) _
  have HP := Lib.hid (pair_any 31 #[.pointer (some ⟨w.heap.size, 0, none⟩)] (fun x _ => k * x) A A cA cA na na xs xs (w.alloc (.cells #[.int .u64 (uz k)] 23)) (hx.below hb0) (hx.below hb0) lx lx hn enter31
    (fun x y w1 hw => scale1_any k x y w.heap.size w1 (by rw [hw.cell (p := ⟨w.heap.size, 0, none⟩) (by simp)]; simp)))
  clear hx lx
  have HB0 := Lib.hid hb0; clear hb0
  go_enter Try.func21, Try.ntmps21
  go_wp2_with fail
  refine HP.out.mono ?_
  rintro e w1 ⟨A', c', n', hn', rfl, hr, hb⟩
  rw [zip_scale] at hn' hr
  have HN := Lib.hid hn'; clear hn'
  have HR := Lib.hid hr; clear hr
  have HB := Lib.hid hb; clear hb
  go_wp2_with fail
  go_ret
  exact ⟨A', c', n', HN.out, rfl, HR.out, HB0.out.trans (HB.out.mono (by simp))⟩

/-- The sum of a row. -/
def usum (us : List UInt64) : UInt64 := us.foldl (· + ·) 0

theorem usum_snoc (us : List UInt64) (u : UInt64) : usum (us ++ [u]) = usum us + u := by simp [usum]
theorem usum_take (us : List UInt64) (k : Nat) (h : k < us.length) : usum (us.take (k + 1)) = usum (us.take k) + us.getD k 0 := by
  rw [List.take_succ_eq_append_getElem h, usum_snoc]
  simp [List.getD_eq_getElem?_getD, h]

set_option maxHeartbeats 400000 in
theorem sum_any (A : Option Addr) (cA na : Nat) (xs : List UInt64) (w : World) (hx : Rd w A xs) (lx : na = xs.length) (hn : na ≤ 1000000) :
    Calls Try.prog 23 #[.slice A na cA] w fun e w' => e = .returned (.int .u64 (uz (usum xs))) ∧ w = w' := by
  have HX := Lib.hid hx; clear hx
  have LX := Lib.hid lx; clear lx
  go_enter Try.func23, Try.ntmps23
  go_wp2_with fail
  go_loop [3, 8] (fun s i => ∃ (k : Nat) (t : UInt64), k ≤ na ∧ i = .int .i64 k ∧ s = .int .u64 (uz t) ∧ Hid (t = usum (xs.take k))) (fun _ i => na - (intOf i).toNat)
  case atStart => exact ⟨0, 0, Nat.zero_le _, rfl, rfl, rfl⟩
  case round =>
    obtain ⟨k, t, hk, rfl, rfl, HT⟩ := hrel
    by_cases hlt : k < na
    · obtain ⟨b1, o1, rfl, l1, c1⟩ := HX.out (by rw [← LX.out]; omega)
      obtain ⟨x, HXk⟩ : ∃ x : UInt64, Hid (x = xs.getD k 0) := ⟨_, rfl⟩
      have d1 : w.cell? ⟨b1, o1 + k, none⟩ = some (.int .u64 (uz x)) := by
        rw [c1 k (by rw [← LX.out]; exact hlt), HXk.out]; rfl
      clear c1
      have HA := Lib.hid (uz_add t x)
      go_wp2
      go_round
      case rel => exact ⟨k + 1, t + x, by omega, by go_num, congrArg (Value.int .u64) HA.out, by show _ = _; rw [usum_take xs k (by rw [← LX.out]; exact hlt), ← HT.out, ← HXk.out]⟩
      case measure => simp [intOf]; omega
    · go_wp2
      go_ret
      have ht := HT.out
      rw [List.take_of_length_le (by rw [← LX.out]; omega)] at ht
      subst ht
      exact ⟨rfl, rfl⟩

/-- The sum of products. -/
def udot (xs ys : List UInt64) : UInt64 := usum (List.zipWith (· * ·) xs ys)

set_option maxHeartbeats 400000 in
theorem dot_any (A B : Option Addr) (cA cB na nb : Nat) (xs ys : List UInt64) (w : World) (hx : Rd w A xs) (hy : Rd w B ys) (lx : na = xs.length) (ly : nb = ys.length) (hn : na ≤ 1000000) :
    Calls Try.prog 25 #[.slice A na cA, .slice B nb cB] w fun e w' => e = .returned (.int .u64 (uz (udot xs ys))) ∧ Below w.heap.size w w' := by
  have HP := Lib.hid (mul_any A B cA cB na nb xs ys w hx hy lx ly hn)
  have LX := Lib.hid lx
  clear hx hy lx ly
  go_enter Try.func25, Try.ntmps25
  go_wp2_with fail
  refine HP.out.mono ?_
  rintro e w1 ⟨A', c', n', hn', rfl, hr, hb⟩
  have hle : n' ≤ na := by rw [hn', LX.out]; simp; omega
  have HN := Lib.hid hn'; clear hn'
  have HR := Lib.hid hr; clear hr
  have HB := Lib.hid hb; clear hb
  go_wp2_with fail
  refine (sum_any A' c' n' _ w1 HR.out HN.out (by omega)).mono ?_
  rintro e w2 ⟨rfl, rfl⟩
  go_wp2_with fail
  go_ret
  exact ⟨rfl, HB.out⟩

end Go.Proofs.Ytbhmjmfappfjkaa
