/-
  What the document's own functions of layer 14 answer: Put.
-/
import Derived.Test.YtlllinpaclodaaaCMath
import Derived.Test.YtlllinpaclodaaaBMem
import Derived.Deep.LoopGhost
import Derived.Deep.QuietTactic
import Derived.BigQuiet
import Derived.StillTailTactics
import Derived.Test.YtlllinpaclodaaaSSame
namespace Go.Proofs.Ytlllinpaclodaaa
open Go.RowKit

theorem byte_of (x : UInt64) {j : Nat} (h : j ≤ 7) : ∃ c, (be8 x)[j]? = some c ∧ uz x / 2 ^ (8 * (7 - j)) % 256 = bz c := by
  refine ⟨_, be_get (by omega), ?_⟩
  unfold bz uz
  rw [UInt8.toNat_ofNat', show 8 - 1 - j = 7 - j by omega, show (256 : Nat) ^ (7 - j) = 2 ^ (8 * (7 - j)) by rw [Nat.pow_mul]]
  show ((x.toNat : Nat) : Int) / 2 ^ (8 * (7 - j)) % 256 = ((x.toNat / 2 ^ (8 * (7 - j)) % 256 : Nat) : Int)
  rw [Int.natCast_emod, Int.natCast_ediv, Int.natCast_pow]
  rfl
theorem laid_snoc (p : Nat) (l : List UInt64) (x : UInt64) : laidC p (l ++ [x]) = laidC p l ++ be8 x := by
  unfold laidC
  rw [List.flatMap_append, List.append_assoc]; simp

set_option maxHeartbeats 4000000 in
set_option maxRecDepth 100000 in
theorem rput14 (a : Int) (A : Option Addr) (cA n : Nat) (xs : List UInt64) (w : World) (hx : Rg ucells w A xs) (lx : n = xs.length) (hn : n ≤ 1000000) :
    Calls Try.prog 17 #[.int .i64 a, .slice A n cA] w (RowNew bcells (putC a xs) w) := by
  have HX := Lib.hid hx; have LX := Lib.hid lx
  have NO : Hid (okPut a n = false → putC a xs = []) := fun e => put_no (by rw [← lx]; exact e)
  clear hx lx
  by_cases h0 : a < 0
  · have d0 : decide (a < 0) = true := decide_eq_true h0
    have E := Lib.hid (NO.out (ok_put_no (by omega)))
    clear h0 NO
    go_enter Try.func17, Try.ntmps17
    go_wp2_with fail
    go_ret
    exact ⟨none, 0, 0, rfl, by rw [E.out]; rfl, by rw [E.out]; exact Rg.nil _ _ _, Below.refl _ _, Nat.le_refl _, Nat.zero_le _, fun a ha => by cases ha⟩
  have d0 : decide (a < 0) = false := decide_eq_false h0
  by_cases h1 : 65535 < a
  · have d1 : decide (65535 < a) = true := decide_eq_true h1
    have E := Lib.hid (NO.out (ok_put_no (by omega)))
    clear h0 h1 NO
    go_enter Try.func17, Try.ntmps17
    go_wp2_with fail
    go_ret
    exact ⟨none, 0, 0, rfl, by rw [E.out]; rfl, by rw [E.out]; exact Rg.nil _ _ _, Below.refl _ _, Nat.le_refl _, Nat.zero_le _, fun a ha => by cases ha⟩
  have d1 : decide (65535 < a) = false := decide_eq_false h1
  obtain ⟨p, rfl⟩ : ∃ p : Nat, a = p := ⟨a.toNat, by omega⟩
  have p6 : p ≤ 65535 := by omega
  have d0' : decide ((p : Int) < 0) = false := decide_eq_false (by omega)
  have d1' : decide (65535 < p) = false := decide_eq_false (by omega)
  by_cases h2 : n < 1
  · have d2 : decide ((n : Int) < 1) = true := decide_eq_true (by omega)
    have d2' : decide (n < 1) = true := decide_eq_true h2
    have E := Lib.hid (NO.out (ok_put_no (by omega)))
    clear h0 h1 h2 NO
    go_enter Try.func17, Try.ntmps17
    go_wp2_with fail
    go_ret
    exact ⟨none, 0, 0, rfl, by rw [E.out]; rfl, by rw [E.out]; exact Rg.nil _ _ _, Below.refl _ _, Nat.le_refl _, Nat.zero_le _, fun a ha => by cases ha⟩
  have d2 : decide ((n : Int) < 1) = false := decide_eq_false (by omega)
  have d2' : decide (n < 1) = false := decide_eq_false h2
  by_cases h3 : 6 < n
  · have d3 : decide (6 < (n : Int)) = true := decide_eq_true (by omega)
    have d3' : decide (6 < n) = true := decide_eq_true h3
    have E := Lib.hid (NO.out (ok_put_no (by omega)))
    clear h0 h1 h2 h3 NO
    go_enter Try.func17, Try.ntmps17
    go_wp2_with fail
    go_ret
    exact ⟨none, 0, 0, rfl, by rw [E.out]; rfl, by rw [E.out]; exact Rg.nil _ _ _, Below.refl _ _, Nat.le_refl _, Nat.zero_le _, fun a ha => by cases ha⟩
  have d3 : decide (6 < (n : Int)) = false := decide_eq_false (by omega)
  have d3' : decide (6 < n) = false := decide_eq_false h3
  by_cases h4 : 65535 < (p : Int) + n - 1
  · have d4 : decide (65535 < (p : Int) + n - 1) = true := decide_eq_true h4
    have E := Lib.hid (NO.out (ok_put_no (by omega)))
    clear h0 h1 NO
    go_enter Try.func17, Try.ntmps17
    go_wp2_with fail
    go_ret
    exact ⟨none, 0, 0, rfl, by rw [E.out]; rfl, by rw [E.out]; exact Rg.nil _ _ _, Below.refl _ _, Nat.le_refl _, Nat.zero_le _, fun a ha => by cases ha⟩
  have d4 : decide (65535 < (p : Int) + n - 1) = false := decide_eq_false h4
  have n6 : n ≤ 6 := by omega
  have OK : Hid (okPut p n = true) := ok_put.2 ⟨by omega, by omega, by omega, by omega, by omega⟩
  clear h0 h1 h2 h3 h4
  go_enter Try.func17, Try.ntmps17
  go_wp2_with fail
  have q1 : (p : Int) / 256 = bz (UInt8.ofNat (p / 256 ^ 1)) := by unfold bz; rw [UInt8.toNat_ofNat']; omega
  have q2 : (p : Int) % 256 = bz (UInt8.ofNat (p / 256 ^ 0)) := by unfold bz; rw [UInt8.toNat_ofNat']; omega
  obtain ⟨V, hV⟩ : ∃ V, V = w.alloc (.cells #[.int .u8 ((p : Int) / 256), .int .u8 ((p : Int) % 256)] 5) := ⟨_, rfl⟩
  have O0 : Hid (V.ownsRow w.heap.size 5 1 (.slice (some ⟨w.heap.size, 0, none⟩) 2 2) (2 + 8 * 0) ((laidC p (xs.take 0)).flatMap bcells)) := by
    show World.ownsRow _ _ _ _ _ _ _
    rw [hV, q1, q2]
    exact lit2 w _ _
  have B0 : Hid (Below w.heap.size w V) := by rw [hV]; exact chain_alloc (Below.refl _ w) _
  rw [← hV]
  clear hV q1 q2
  obtain ⟨v0, hv0⟩ : ∃ v0, v0 = Value.slice (some ⟨w.heap.size, 0, none⟩) 2 2 := ⟨_, rfl⟩
  rw [← hv0] at O0 ⊢
  clear hv0
  obtain ⟨i0, hi, hz0, hz1, hz2⟩ := info_parts Try.infoB
  go_loopg [5, 6] n (fun gh v s6 wr => ∃ i : Nat, i ≤ n ∧ Hid (gh = n - i) ∧ s6 = .int .i64 (i : Int) ∧ Hid (wr.ownsRow w.heap.size 5 1 v (2 + 8 * i) ((laidC p (xs.take i)).flatMap bcells)) ∧ Hid (Below w.heap.size w wr))
  case atStart => exact ⟨0, by omega, by show _ = _; omega, rfl, O0, B0⟩
  case round =>
    obtain ⟨i, hi2, HG, rfl, OW, BK⟩ := hrel
    by_cases kn : i < n
    · have ki : (i : Int) < (n : Int) := by omega
      have ka : (0 : Int) ≤ (i : Int) := by omega
      obtain ⟨x, gx⟩ : ∃ x, xs[i]? = some x := ⟨_, List.getElem?_eq_getElem (by rw [← LX.out]; exact kn)⟩
      have GX := Lib.hid gx
      obtain ⟨b1, o1, rfl, l1, c1⟩ := HX.out (by rw [← LX.out]; omega)
      have KN := Lib.hid kn
      have L1 := Lib.hid l1
      have C1 : Hid (w.cell? ⟨b1, o1 + i, none⟩ = some (.int .u64 (uz x))) := su_cell c1 gx
      clear gx c1 l1 kn
      go_wp2_with fail
      go_loopg [5, 7] 8 (fun gh v s7 wx => ∃ j : Nat, j ≤ 8 ∧ Hid (gh = 8 - j) ∧ s7 = .int .i64 (7 - (j : Int)) ∧ Hid (wx.ownsRow w.heap.size 5 1 v (2 + 8 * i + j) ((laidC p (xs.take i) ++ (be8 x).take j).flatMap bcells)) ∧ Hid (Below w.heap.size w wx))
      case atStart => exact ⟨0, by omega, by show _ = _; omega, rfl, by show World.ownsRow _ _ _ _ _ _ _; rw [List.take_zero, List.append_nil]; exact OW.out, BK⟩
      case round =>
        obtain ⟨j, hj, HG2, rfl, OJ, BJ⟩ := hrel
        by_cases jn : j < 8
        · have d7 : decide ((j : Int) ≤ 7) = true := decide_eq_true (by omega)
          obtain ⟨c, hc, e1⟩ := byte_of x (show j ≤ 7 by omega)
          have JN := Lib.hid jn
          have E1 : Hid ((be8 x).take (j + 1) = (be8 x).take j ++ [c]) := take_get hc
          have c1 := (BJ.out.cell (p := ⟨b1, o1 + i, none⟩) L1.out).trans C1.out
          have kn := KN.out
          have hs := BJ.out.size
          clear OW BK hc
          go_wp2_with (at_builtin; refine wpList_append_own _ rfl _ _ 23 rfl w.heap.size 5 i0 (.int .u8 0) 1 1 Try.underlying23 hi hz0 hz1 hz2 rfl (by decide) _ _ _ rfl (OJ.out.alloc _) ⟨wr.heap.size, 0, none⟩ 1 1 (bcells c) rfl rfl ?c1 (bcells_one _) ?c3 ?c4 ?c5 ?_)
          case c1 => first | exact fun _ _ h => h | exact new_cells
          case c3 => unfold maxLen; omega
          case c4 => omega
          case c5 => first | omega | (simp; omega)
          intro v' w4 hown2 hgrow hcp
          clear hcp
          have O4 : Hid (w4.ownsRow w.heap.size 5 1 v' (2 + 8 * i + (j + 1)) ((laidC p (xs.take i) ++ (be8 x).take (j + 1)).flatMap bcells)) := by
            show World.ownsRow _ _ _ _ _ _ _
            rw [E1.out, List.flatMap_append, List.flatMap_append, show [c].flatMap bcells = bcells c by simp]
            exact hown2
          have B4 : Hid (Below w.heap.size w w4) := (BJ.out.alloc hs _).grown hgrow (by simp; omega) (fun q hqq => (OJ.out.lt _ hqq).1)
          clear hown2 hgrow OJ BJ hs c1 e1 jn
          go_wp2_with fail
          go_roundg (8 - (j + 1))
          case measure => have := HG2.out; have := JN.out; omega
          case rel => exact ⟨j + 1, by have := JN.out; omega, rfl, by go_num, O4, B4⟩
        · obtain rfl : j = 8 := by omega
          have kn := KN.out
          have O4 : Hid (wr.ownsRow w.heap.size 5 1 u5 (2 + 8 * (i + 1)) ((laidC p (xs.take (i + 1))).flatMap bcells)) := by
            show World.ownsRow _ _ _ _ _ _ _
            have := OJ.out
            rw [show (be8 x).take 8 = be8 x from List.take_of_length_le (by rw [be8_len]; decide)] at this
            rw [take_get GX.out, laid_snoc]
            exact this
          clear OJ OW BK
          go_wp2_with fail
          go_roundg (n - (i + 1))
          case measure => have := HG.out; omega
          case rel => exact ⟨i + 1, by omega, rfl, by go_num, O4, BJ⟩
    · obtain rfl : i = n := by omega
      have E : Hid (putC p xs = laidC p xs) := by
        show _ = _
        have := put_yes (a := p) (l := xs) (by rw [← LX.out]; exact OK.out)
        rwa [Int.toNat_natCast] at this
      have OW2 := OW.out
      rw [List.take_of_length_le (Nat.le_of_eq LX.out.symm)] at OW2
      obtain ⟨A', c', rfl, z1, hr, e3, e4⟩ := own_cap bcells_len (by decide) OW2
      have HN := own_new OW2
      have HR := Lib.hid hr; have E3 := Lib.hid e3; have E4 := Lib.hid e4; have Z1 := Lib.hid z1; have HN := Lib.hid HN
      clear hr z1 e3 e4 OW2
      go_wp2_with fail
      go_ret
      exact ⟨A', c', _, rfl, by rw [E.out]; exact Z1.out, by rw [E.out]; exact HR.out, BK.out, E3.out, E4.out, HN.out⟩

end Go.Proofs.Ytlllinpaclodaaa
