/-
  What the document's own functions of layer 14 answer: Get.
-/
import Derived.Test.YtlllinpaclodaaaCRef
import Derived.Test.YtlllinpaclodaaaSFill
namespace Go.Proofs.Ytlllinpaclodaaa
open Go.RowKit

/-- What a chunk's bytes are read as. -/
def GetTo (b : List UInt8) (w : World) (e : Ending) (w' : World) : Prop :=
  ∃ (A : Option Addr) (k n : Nat), e = .returned (.tuple #[.int .i64 (getP b), .slice A n k, .bool (okGet b)]) ∧ n = (getL b).length ∧ Rg ucells w' A (getL b) ∧ Below w.heap.size w w' ∧ n ≤ k ∧ k ≤ maxLen
theorem get_no {b : List UInt8} (h : okGet b = false) : getP b = 0 ∧ getL b = [] := ⟨if_neg (by rw [h]; decide), if_neg (by rw [h]; decide)⟩
theorem get_yes {b : List UInt8} (h : okGet b = true) : getP b = posC b ∧ getL b = listC b := ⟨if_pos h, if_pos h⟩
/-- The number of the first bytes. -/
def rdU (b : List UInt8) : UInt64 := UInt64.ofNat (rdN b)
theorem rdU_snoc (b : List UInt8) (y : UInt8) : rdU (b ++ [y]) = rdU b * 256 + UInt64.ofNat y.toNat := by
  unfold rdU; rw [rd_snoc]
  apply UInt64.toNat_inj.1
  rw [UInt64.toNat_ofNat', UInt64.toNat_add, UInt64.toNat_mul, UInt64.toNat_ofNat', UInt64.toNat_ofNat']
  show _ = ((rdN b % 2 ^ 64 * 256 % 2 ^ 64) + y.toNat % 2 ^ 64) % 2 ^ 64
  omega
theorem bz_u64 (y : UInt8) : IntKind.u64.wrap (bz y) = uz (UInt64.ofNat y.toNat) := by
  rw [IntKind.wrap_u64]; unfold bz uz
  rw [UInt64.toNat_ofNat']
  have := y.toNat_lt
  omega
theorem bz_uz (y : UInt8) : bz y = uz (UInt64.ofNat y.toNat) := by
  unfold bz uz
  rw [UInt64.toNat_ofNat']
  have := y.toNat_lt
  omega
theorem nums_next {b : List UInt8} {q : Nat} (h : q < b.length / 8) : (numsC b).take (q + 1) = (numsC b).take q ++ [rdU ((b.drop (8 * q)).take 8)] := take_get (nums_get h)

set_option maxHeartbeats 4000000 in
set_option maxRecDepth 100000 in
theorem rget14 (A : Option Addr) (cA n : Nat) (b : List UInt8) (w : World) (hx : Rg bcells w A b) (lx : n = b.length) (hn : n ≤ 1000000) :
    Calls Try.prog 13 #[.slice A n cA] w (GetTo b w) := by
  have HX := Lib.hid hx; have LX := Lib.hid lx
  have NO : Hid (okGet b = false → getP b = 0 ∧ getL b = []) := get_no
  clear hx lx
  by_cases h0 : n < 10
  · have d0 : decide ((n : Int) < 10) = true := decide_eq_true (by omega)
    have d0' : decide (n < 10) = true := decide_eq_true h0
    have OK : Hid (okGet b = false) := ok_get_no (by rw [← LX.out]; omega)
    have E := Lib.hid (NO.out OK.out)
    clear h0 NO
    go_enter Try.func13, Try.ntmps13
    go_wp2_with fail
    go_ret3
    exact ⟨none, 0, 0, by rw [E.out.1, OK.out]; rfl, by rw [E.out.2]; rfl, by rw [E.out.2]; exact Rg.nil _ _ _, Below.refl _ _, Nat.le_refl _, Nat.zero_le _⟩
  have d0 : decide ((n : Int) < 10) = false := decide_eq_false (by omega)
  have d0' : decide (n < 10) = false := decide_eq_false h0
  by_cases h1 : 50 < n
  · have d1 : decide (50 < (n : Int)) = true := decide_eq_true (by omega)
    have d1' : decide (50 < n) = true := decide_eq_true h1
    have OK : Hid (okGet b = false) := ok_get_no (by rw [← LX.out]; omega)
    have E := Lib.hid (NO.out OK.out)
    clear h0 h1 NO
    go_enter Try.func13, Try.ntmps13
    go_wp2_with fail
    go_ret3
    exact ⟨none, 0, 0, by rw [E.out.1, OK.out]; rfl, by rw [E.out.2]; rfl, by rw [E.out.2]; exact Rg.nil _ _ _, Below.refl _ _, Nat.le_refl _, Nat.zero_le _⟩
  have d1 : decide (50 < (n : Int)) = false := decide_eq_false (by omega)
  have d1' : decide (50 < n) = false := decide_eq_false h1
  by_cases h2 : ¬ (n - 2) % 8 = 0
  · have d2 : (((n : Int) - 2) % 8 != 0) = true := by simp; omega
    have OK : Hid (okGet b = false) := ok_get_no (by rw [← LX.out]; omega)
    have E := Lib.hid (NO.out OK.out)
    clear NO
    go_enter Try.func13, Try.ntmps13
    go_wp2_with fail
    go_ret3
    exact ⟨none, 0, 0, by rw [E.out.1, OK.out]; rfl, by rw [E.out.2]; rfl, by rw [E.out.2]; exact Rg.nil _ _ _, Below.refl _ _, Nat.le_refl _, Nat.zero_le _⟩
  have h2 := Decidable.not_not.1 h2
  have d2 : (((n : Int) - 2) % 8 != 0) = false := by simp; omega
  obtain ⟨m, hm⟩ : ∃ m, n = 2 + 8 * m := ⟨(n - 2) / 8, by omega⟩
  have m6 : m ≤ 6 := by omega
  have m1 : 1 ≤ m := by omega
  obtain ⟨b1, o1, rfl, l1, q1⟩ := HX.out (by rw [← LX.out]; omega)
  obtain ⟨y0, g0⟩ : ∃ y, b[0]? = some y := ⟨_, List.getElem?_eq_getElem (by rw [← LX.out]; omega)⟩
  obtain ⟨y1, g1⟩ : ∃ y, b[1]? = some y := ⟨_, List.getElem?_eq_getElem (by rw [← LX.out]; omega)⟩
  have c0 : w.cell? ⟨b1, o1, none⟩ = some (.int .u8 (bz y0)) := b_cell q1 g0
  have n0 : (0 : Int) < (n : Int) := by omega
  have n1 : (1 : Int) < (n : Int) := by omega
  have c1 := b_cell q1 g1
  have PS : Hid ((posC b : Int) = bz y0 * 256 + bz y1) := by
    show _ = _
    have e : b.take 2 = [y0, y1] := by rw [take_get g1, take_get g0]; rfl
    unfold posC bz
    rw [e]
    show ((rdN ([y0] ++ [y1]) : Nat) : Int) = _
    rw [rd_snoc]
    show (((0 * 256 + y0.toNat) * 256 + y1.toNat : Nat) : Int) = _
    omega
  have r0 := bz_lo y0; have r1 := bz_hi y0; have r2 := bz_lo y1; have r3 := bz_hi y1
  have MN : Hid (manyC b = m) := by show manyC b = m; unfold manyC; rw [← LX.out]; omega
  have LL : Hid ((b.drop 2).length = 8 * m) := by show (b.drop 2).length = 8 * m; rw [List.length_drop, ← LX.out]; omega
  have hd2 : n ≤ 50 := by omega
  have hd3 : 10 ≤ n := by omega
  have HM := Lib.hid hm
  clear h0 h1 h2 g0 g1 hm
  go_enter Try.func13, Try.ntmps13
  go_wp2_with fail
  go_quiet (fail)
  go_wp2_with fail
  obtain ⟨i0, hi, hz0, hz1, hz2⟩ := info_parts Try.info40
  have E0 : Hid (listC b = numsC (b.drop 2)) := rfl
  clear c0 c1
  go_loopg [6, 7] m (fun gh v s7 wr => ∃ q : Nat, q ≤ m ∧ Hid (gh = m - q) ∧ s7 = .int .i64 ((2 + 8 * q : Nat) : Int) ∧ Hid (wr.ownsRow w.heap.size 40 1 v q (((listC b).take q).flatMap ucells)) ∧ Hid (Below w.heap.size w wr))
  case atStart => exact ⟨0, by omega, by show _ = _; omega, rfl, World.ownsRow_nil _ _ _ _, by first | exact Below.refl _ _ | exact chain_drewN (Below.refl _ w) _⟩
  case round =>
    obtain ⟨q, hq, HG, rfl, OW, BK⟩ := hrel
    obtain ⟨t, ht⟩ : ∃ t, t = 2 + 8 * q := ⟨_, rfl⟩
    rw [← ht]
    by_cases qn : q < m
    · have tn : (t : Int) < (n : Int) := by have := HM.out; omega
      have t7 : t + 7 < n := by have := HM.out; omega
      have HT := Lib.hid ht
      have QN := Lib.hid qn
      clear ht qn
      obtain ⟨d, hd⟩ : ∃ d, d = (b.drop t).take 8 := ⟨_, rfl⟩
      have DL : d.length = 8 := by rw [hd, List.length_take, List.length_drop, ← LX.out]; omega
      have HD := Lib.hid hd
      clear hd
      go_wp2_with fail
      go_loopg [8, 9] 8 (fun gh s8 s9 wx => ∃ j : Nat, j ≤ 8 ∧ Hid (gh = 8 - j) ∧ s9 = .int .i64 (j : Int) ∧ s8 = .int .u64 (uz (rdU (d.take j))) ∧ wx = wr)
      case atStart => exact ⟨0, by omega, by show _ = _; omega, rfl, rfl, rfl⟩
      case round =>
        obtain ⟨j, hj, HG2, rfl, rfl, rfl⟩ := hrel
        by_cases jn : j < 8
        · obtain ⟨y, gy⟩ : ∃ y, d[j]? = some y := ⟨_, List.getElem?_eq_getElem (by omega)⟩
          have e0 : rdU (d.take (j + 1)) = rdU (d.take j) * 256 + UInt64.ofNat y.toNat := by rw [take_get gy, rdU_snoc]
          have gb : b[t + j]? = some y := by
            rw [HD.out, List.getElem?_take, if_pos jn, List.getElem?_drop] at gy; exact gy
          obtain ⟨x, hx⟩ : ∃ x, x = rdU (d.take j) := ⟨_, rfl⟩
          obtain ⟨z, hz⟩ : ∃ z, z = rdU (d.take (j + 1)) := ⟨_, rfl⟩
          rw [← hx, ← hz] at e0
          have c2 := (BK.out.cell (p := ⟨b1, o1 + (t + j), none⟩) l1).trans (b_cell q1 gb)
          have e1 : IntKind.u64.wrap (uz x * 256) = uz (x * 256) := uz_mul x 256
          obtain ⟨v, hv⟩ : ∃ v : UInt64, v = UInt64.ofNat y.toNat := ⟨_, rfl⟩
          have e2 : IntKind.u64.wrap (bz y) = uz v := by rw [hv]; exact bz_u64 y
          have e3 : IntKind.u64.wrap (uz (x * 256) + uz v) = uz z := by rw [uz_add, e0, hv]
          have HZ := Lib.hid hz
          rw [← hx]
          have y1 := bz_lo y
          have y2 := bz_hi y
          have j8 : (j : Int) < 8 := by omega
          have tj : (t : Int) + (j : Int) < (n : Int) := by omega
          clear gy gb hx hz e0 hv
          go_wp2_with fail
          go_roundg (8 - (j + 1))
          case measure => have := HG2.out; omega
          case rel => exact ⟨j + 1, by omega, rfl, by go_num, by rw [HZ.out], rfl⟩
        · obtain rfl : j = 8 := by omega
          obtain ⟨x, hx⟩ : ∃ x, x = rdU d := ⟨_, rfl⟩
          have e8 : rdU (d.take 8) = x := by rw [List.take_of_length_le (by omega), hx]
          rw [e8]
          have E1 : Hid ((listC b).take (q + 1) = (listC b).take q ++ [x]) := by
            show _ = _
            have := nums_next (b := b.drop 2) (q := q) (by rw [LL.out]; have := QN.out; omega)
            rw [List.drop_drop, ← HT.out, ← HD.out, ← hx] at this
            exact this
          have hs := BK.out.size
          clear hx e8
          go_wp2_with (at_builtin; refine wpList_append_own _ rfl _ _ 22 rfl w.heap.size 40 i0 (.int .u64 0) 1 8 Try.underlying22 hi hz0 hz1 hz2 rfl (by decide) _ _ _ rfl (OW.out.alloc _) ⟨wr.heap.size, 0, none⟩ 1 1 (ucells x) rfl rfl ?c1 (ucells_one _) ?c3 ?c4 ?c5 ?_)
          case c1 => first | exact fun _ _ h => h | exact new_cells
          case c3 => unfold maxLen; omega
          case c4 => omega
          case c5 => first | omega | (simp; omega)
          intro v' w4 hown2 hgrow hcp
          clear hcp
          have O4 : Hid (w4.ownsRow w.heap.size 40 1 v' (q + 1) (((listC b).take (q + 1)).flatMap ucells)) := by
            show World.ownsRow _ _ _ _ _ _ _
            rw [E1.out, List.flatMap_append, show [x].flatMap ucells = ucells x by simp]
            exact hown2
          have B4 : Hid (Below w.heap.size w w4) := (BK.out.alloc hs _).grown hgrow (by simp; omega) (fun q hqq => (OW.out.lt _ hqq).1)
          clear hown2 hgrow OW BK hs
          go_wp2_with fail
          go_roundg (m - (q + 1))
          case measure => have := HG.out; have := QN.out; omega
          case rel => exact ⟨q + 1, by have := QN.out; omega, rfl, by have := HT.out; go_num, O4, B4⟩
    · obtain rfl : q = m := by omega
      have tn : ¬ ((t : Int) < (n : Int)) := by have := HM.out; omega
      have OW2 := OW.out
      have LQ : (listC b).length = q := by rw [list_len, MN.out]
      rw [List.take_of_length_le (Nat.le_of_eq LQ)] at OW2
      obtain ⟨A', c', rfl, z1, hr, e3, e4⟩ := own_cap ucells_len (by decide) OW2
      have HR := Lib.hid hr; have E3 := Lib.hid e3; have E4 := Lib.hid e4; have Z1 := Lib.hid z1
      clear hr z1 e3 e4 OW2 ht LQ
      by_cases h4 : 65535 < bz y0 * 256 + bz y1 + q - 1
      · have d4 : decide (65535 < bz y0 * 256 + bz y1 + (q : Int) - 1) = true := decide_eq_true h4
        have OK : Hid (okGet b = false) := ok_get_no (by rw [MN.out]; have := PS.out; omega)
        have E := Lib.hid (NO.out OK.out)
        clear h4
        go_wp2_with fail
        go_ret3
        exact ⟨none, 0, 0, by rw [E.out.1, OK.out]; rfl, by rw [E.out.2]; rfl, by rw [E.out.2]; exact Rg.nil _ _ _, BK.out, Nat.le_refl _, Nat.zero_le _⟩
      · have d4 : decide (65535 < bz y0 * 256 + bz y1 + (q : Int) - 1) = false := decide_eq_false h4
        have OK : Hid (okGet b = true) := ok_get.2 ⟨by rw [← LX.out]; omega, by rw [← LX.out]; omega, by rw [← LX.out]; have := HM.out; omega, by rw [MN.out]; have := PS.out; omega⟩
        have E := Lib.hid (get_yes OK.out)
        clear h4
        go_wp2_with fail
        go_ret3
        exact ⟨A', c', _, by rw [E.out.1, OK.out, PS.out]; rfl, by rw [E.out.2]; exact Z1.out, by rw [E.out.2]; exact HR.out, BK.out, E3.out, E4.out⟩

end Go.Proofs.Ytlllinpaclodaaa
