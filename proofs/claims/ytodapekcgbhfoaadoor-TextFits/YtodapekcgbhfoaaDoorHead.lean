/-
  Whether two rows of texts are alike, whether texts are too long; and the fixed question that every law asks first.
-/
import Derived.Test.YtodapekcgbhfoaaDoorGet
import Derived.Deep.QuietTactic
import Derived.BigQuiet
namespace Go.Proofs.YtodapekcgbhfoaaDoor
open Go.RowKit

theorem below_drewN {B : Nat} {a w : World} (h : Below B a w) (n : Nat) : Below B a (w.drewN n) := h.trans (Joins.below_draws _ w n)

set_option maxHeartbeats 400000 in
theorem same_core (A B : Option Addr) (cA cB n : Nat) (us : List (List UInt8)) (w : World) (hx : Rd w A us) (hy : Rd w B us) (lx : n = us.length) (hn : n ≤ 1000000) :
    Calls Tryd.prog 19 #[.slice A n cA, .slice B n cB] w fun e w' => e = .returned (.bool true) ∧ Below w.heap.size w w' := by
  have HX := Lib.hid hx; clear hx
  have HY := Lib.hid hy; clear hy
  have LX := Lib.hid lx; clear lx
  have hne : ((n : Int) != (n : Int)) = false := by simp
  go_enter Tryd.func19, Tryd.ntmps19
  go_wp2_with fail
  go_loopw [5] (fun i wr => ∃ k : Nat, k ≤ n ∧ i = .int .i64 k ∧ Hid (Below w.heap.size w wr)) (fun i _ => n - (intOf i).toNat)
  case atStart => exact ⟨0, Nat.zero_le _, rfl, Below.refl _ _⟩
  case round =>
    obtain ⟨k, hk, rfl, HB⟩ := hrel
    by_cases hlt : k < n
    · obtain ⟨b1, o1, rfl, l1, c1⟩ := HX.out (by rw [← LX.out]; omega)
      obtain ⟨b2, o2, rfl, l2, c2⟩ := HY.out (by rw [← LX.out]; omega)
      obtain ⟨x, HXk⟩ : ∃ x : List UInt8, Hid (x = us.getD k []) := ⟨_, rfl⟩
      have d1 : wr.cell? ⟨b1, o1 + k, none⟩ = some (.string (ba x)) := by
        rw [HB.out.cell (p := ⟨b1, o1 + k, none⟩) l1, c1 k (by rw [← LX.out]; exact hlt), HXk.out]
      have d2 : wr.cell? ⟨b2, o2 + k, none⟩ = some (.string (ba x)) := by
        rw [HB.out.cell (p := ⟨b2, o2 + k, none⟩) l2, c2 k (by rw [← LX.out]; exact hlt), HXk.out]
      clear c1 c2
      have hxx : ((ba x).toList == (ba x).toList) = true := by simp
      go_wp2_with fail
      go_quiet (fail)
      go_wp2_with fail
      go_roundw
      case rel => exact ⟨k + 1, by omega, by go_num, below_drewN HB.out _⟩
      case measure => simp [intOf]; omega
    · go_wp2
      go_ret
      exact ⟨rfl, HB.out⟩

theorem same_any (A B : Option Addr) (cA cB na nb : Nat) (xs ys : List (List UInt8)) (w : World) (hx : Rd w A xs) (hy : Rd w B ys) (lx : na = xs.length) (ly : nb = ys.length) (hn : na ≤ 1000000) (he : xs = ys) :
    Calls Tryd.prog 19 #[.slice A na cA, .slice B nb cB] w fun e w' => e = .returned (.bool true) ∧ Below w.heap.size w w' := by
  subst he
  obtain rfl : nb = na := by rw [lx, ly]
  exact same_core A B cA cB nb xs w hx hy lx hn

def GreatPost (xs : List (List UInt8)) (w : World) (e : Ending) (w' : World) : Prop := ∃ g : Bool, e = .returned (.bool g) ∧ w = w' ∧ (g = false → bulk xs < 9000)

set_option maxHeartbeats 1000000 in
theorem great_any (A : Option Addr) (cA n : Nat) (xs : List (List UInt8)) (w : World) (hx : Rd w A xs) (ln : n = xs.length) :
    Calls Tryd.prog 10 #[.slice A n cA] w (GreatPost xs w) := by
  have HX := Lib.hid hx; clear hx
  have LX := Lib.hid ln; clear ln
  go_enter Tryd.func10, Tryd.ntmps10
  go_wp2_with fail
  go_loop [3, 4] (fun v i => ∃ k m : Nat, k ≤ n ∧ i = .int .i64 k ∧ v = .int .i64 m ∧ Hid (m < 9000 → m + k = n + bulk (xs.take k))) (fun _ i => n - (intOf i).toNat)
  case atStart => exact ⟨0, n, Nat.zero_le _, rfl, rfl, fun _ => rfl⟩
  case round =>
    obtain ⟨k, m, hk, rfl, rfl, HM⟩ := hrel
    by_cases hlt : k < n
    · by_cases h9 : m < 9000
      · obtain ⟨b1, o1, rfl, l1, c1⟩ := HX.out (by rw [← LX.out]; omega)
        obtain ⟨x, HXk⟩ : ∃ x : List UInt8, Hid (x = xs.getD k []) := ⟨_, rfl⟩
        obtain ⟨s, hs⟩ : ∃ s, s = ba x := ⟨_, rfl⟩
        have d1 : w.cell? ⟨b1, o1 + k, none⟩ = some (.string s) := by
          rw [c1 k (by rw [← LX.out]; exact hlt), hs, HXk.out]
        have hz : s.size = x.length := by rw [hs, ba_size]
        have ht : bulk (xs.take (k + 1)) = bulk (xs.take k) + (x.length + 1) := by
          rw [take_getD (by rw [← LX.out]; exact hlt), bulk_snoc, HXk.out]
        have hm2 := HM.out h9
        have d9 : decide ((m : Int) < 9000) = true := by simp; omega
        have hk9 : k ≤ 9000 := by
          have h1 := bulk_take xs k
          have h2 := bulk_len (xs.take k)
          rw [List.length_take, ← LX.out] at h2
          omega
        clear c1 hs l1
        by_cases hx9 : s.size ≤ 9000
        · have HS : Hid (m + s.size < 9000 → (m + s.size) + (k + 1) = n + bulk (xs.take (k + 1))) := by
            intro _; omega
          have hmin : min (s.size : Int) 9000 = (s.size : Int) := by omega
          clear hz ht hm2 HM
          go_wp2_with fail
          go_round
          case rel => exact ⟨k + 1, m + s.size, by omega, by go_num, congrArg (Value.int .i64) (by omega), HS⟩
          case measure => simp [intOf]; omega
        · have HS : Hid (m + 9000 < 9000 → (m + 9000) + (k + 1) = n + bulk (xs.take (k + 1))) := by
            intro _; omega
          have hmin : min (s.size : Int) 9000 = 9000 := by omega
          clear hz ht hm2 HM
          go_wp2_with fail
          go_round
          case rel => exact ⟨k + 1, m + 9000, by omega, by go_num, congrArg (Value.int .i64) (by omega), HS⟩
          case measure => simp [intOf]; omega
      · have d9 : decide ((m : Int) < 9000) = false := by simp; omega
        have d8 : decide (9000 ≤ (m : Int)) = true := by simp; omega
        go_wp2_with fail
        go_ret
        exact ⟨true, rfl, rfl, fun h => by cases h⟩
    · obtain rfl : k = n := by omega
      have hm2 := HM.out
      rw [LX.out, List.take_length] at hm2
      have HB : Hid (m < 9000 → bulk xs < 9000) := fun h => by have := hm2 h; omega
      clear hm2 HM
      go_wp2_with fail
      go_ret
      exact ⟨decide (9000 ≤ (m : Int)), rfl, rfl, fun h => HB.out (by simp at h; omega)⟩

theorem rd_two (w : World) (a b : List UInt8) : Rd (w.alloc (.cells #[.string (ba a), .string (ba b)] 9)) (some ⟨w.heap.size, 0, none⟩) [a, b] := fun _ => by
  refine ⟨w.heap.size, 0, rfl, by simp, fun j hj => ?_⟩
  match j, hj with
  | 0, _ => simp
  | 1, _ => simp

theorem dec70 : dec 70 = [55, 48] := by rw [dec_big (by decide), dec_small (by decide)]; rfl
theorem dec0 : dec 0 = [48] := by rw [dec_small (by decide)]; rfl
theorem dec7 : dec 7 = [55] := by rw [dec_small (by decide)]; rfl
theorem num70 (w : World) (ht : Tab w) : Calls Tryd.prog 17 #[.int .i64 70] w fun e w' => e = .returned (.string ⟨#[55, 48]⟩) ∧ Below w.heap.size w w' :=
  (number_any 70 w ht).mono fun e w' ⟨he, hb⟩ => ⟨by rw [he, numL_in (by decide) (by decide)]; show Ending.returned (.string (ba (dec 70))) = _; rw [dec70]; rfl, hb⟩
theorem num0 (w : World) (ht : Tab w) : Calls Tryd.prog 17 #[.int .i64 0] w fun e w' => e = .returned (.string ⟨#[48]⟩) ∧ Below w.heap.size w w' :=
  (number_any 0 w ht).mono fun e w' ⟨he, hb⟩ => ⟨by rw [he, numL_in (by decide) (by decide)]; show Ending.returned (.string (ba (dec 0))) = _; rw [dec0]; rfl, hb⟩
theorem num_neg (w : World) (ht : Tab w) : Calls Tryd.prog 17 #[.int .i64 (-1)] w fun e w' => e = .returned (.string ⟨#[]⟩) ∧ Below w.heap.size w w' :=
  (number_any (-1) w ht).mono fun e w' ⟨he, hb⟩ => ⟨by rw [he, numL_out (by decide)]; rfl, hb⟩
theorem num_big (w : World) (ht : Tab w) : Calls Tryd.prog 17 #[.int .i64 1000000] w fun e w' => e = .returned (.string ⟨#[]⟩) ∧ Below w.heap.size w w' :=
  (number_any 1000000 w ht).mono fun e w' ⟨he, hb⟩ => ⟨by rw [he, numL_out (by decide)]; rfl, hb⟩
theorem get70 (w : World) (ht : Tab w) : Calls Tryd.prog 11 #[.string ⟨#[55, 48]⟩] w fun e w' => e = .returned (.tuple #[.int .i64 70, .bool true]) ∧ Below w.heap.size w w' :=
  (get_any ⟨#[55, 48]⟩ w ht).mono fun e w' ⟨he, hb⟩ => ⟨by
    have hl : bl ⟨#[55, 48]⟩ = dec 70 := dec70.symm
    rw [he, hl, getN_dec (by decide), getB_dec (by decide)]; rfl, hb⟩
theorem get07 (w : World) (ht : Tab w) : Calls Tryd.prog 11 #[.string ⟨#[48, 55]⟩] w fun e w' => e = .returned (.tuple #[.int .i64 0, .bool false]) ∧ Below w.heap.size w w' :=
  (get_any ⟨#[48, 55]⟩ w ht).mono fun e w' ⟨he, hb⟩ => ⟨by
    have hl : getB (bl ⟨#[48, 55]⟩) = false := by
      cases hq : getB (bl ⟨#[48, 55]⟩)
      · rfl
      · exact absurd rfl ((getB_len hq).2.2 (by decide))
    rw [he, getN_no hl, hl], hb⟩
theorem words07 (w : World) : Calls Tryd.prog 13 #[.string ⟨#[97, 32, 48, 55]⟩] w (RowB [[97], [48, 55]] true w) := words_any ⟨#[97, 32, 48, 55]⟩ w (by decide)
theorem words_two (w : World) : Calls Tryd.prog 13 #[.string ⟨#[97, 32, 32, 98]⟩] w (RowB [] false w) := words_any ⟨#[97, 32, 32, 98]⟩ w (by decide)
theorem lines_abc (w : World) : Calls Tryd.prog 15 #[.string ⟨#[97, 98, 10, 10, 99]⟩] w (RowT [[97, 98], []] [99] w) := lines_any ⟨#[97, 98, 10, 10, 99]⟩ w (by decide)
theorem join07 (A : Option Addr) (cA n : Nat) (w : World) (hx : Rd w A [[97], [48, 55]]) (ln : n = 2) :
    Calls Tryd.prog 20 #[.slice A n cA] w fun e w' => e = .returned (.string ⟨#[97, 32, 48, 55]⟩) ∧ Below w.heap.size w w' := join_any A cA n _ w hx ln (by decide)
theorem text_a (A : Option Addr) (cA n : Nat) (w : World) (hx : Rd w A [[97], []]) (ln : n = 2) :
    Calls Tryd.prog 22 #[.slice A n cA] w fun e w' => e = .returned (.string ⟨#[97, 10, 10]⟩) ∧ Below w.heap.size w w' := text_any A cA n _ w hx ln (by decide)

end Go.Proofs.YtodapekcgbhfoaaDoor
