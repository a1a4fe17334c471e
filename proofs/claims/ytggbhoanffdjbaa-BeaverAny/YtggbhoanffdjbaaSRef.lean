/-
  What the document's own functions of layer 9 answer: shift, back, Number, Back, Row.
-/
import Derived.Test.YtggbhoanffdjbaaSFill
import Derived.Test.YtggbhoanffdjbaaSMath
import Derived.Test.YtggbhoanffdjbaaSSame
import Derived.Deep.LoopGhost
namespace Go.Proofs.Ytggbhoanffdjbaa
open Go.RowKit

set_option maxHeartbeats 1000000 in
theorem rshift9 (z : UInt64) (k : Nat) (hk : k < 64) (w : World) : Calls Try.prog 57 #[.int .u64 (uz z), .int .i64 (k : Int)] w fun e w' => e = .returned (.int .u64 (uz (mixU k z))) ∧ Below w.heap.size w w' := by
  have h0 := uz_lo z
  have h1 := uz_hi z
  have k0 : (0 : Int) ≤ (k : Int) := by omega
  have k1 : (k : Int) < 64 := by omega
  have HM := Lib.hid (uz_mix (k := k) z)
  clear hk
  go_enter Try.func57, Try.ntmps57
  go_wp2_with fail
  go_ret
  exact ⟨by rw [← HM.out]; rfl, Below.refl _ _⟩


theorem and_one (x : UInt64) : bits .and .u64 (uz x) 1 = uz (x &&& 1) := uz_and x 1

set_option maxHeartbeats 2000000 in
theorem rback9 (z : UInt64) (k : Nat) (hk : 1 ≤ k) (hk2 : k < 64) (h3 : 64 ≤ 3 * k) (w : World) : Calls Try.prog 59 #[.int .u64 (uz z), .int .i64 (k : Int)] w fun e w' => e = .returned (.int .u64 (uz (bakU k z))) ∧ Below w.heap.size w w' := by
  obtain ⟨y, hy⟩ : ∃ y, y = bakU k z := ⟨_, rfl⟩
  have hz : z = mixU k y := by rw [hy]; exact (mix_bak h3 z).symm
  rw [← hy]
  have HZ := Lib.hid hz
  clear hy hz h3
  go_enter Try.func59, Try.ntmps59
  go_wp2_with fail
  go_loop [5, 6] (fun x i => ∃ j : Nat, j ≤ 64 ∧ Hid (x = .int .u64 (uz (topU j y))) ∧ Hid (i = .int .i64 ((j : Int) - 1))) (fun _ i => (intOf i + 1).toNat)
  case atStart => exact ⟨64, Nat.le_refl _, by show _ = _; rw [top_all]; rfl, rfl⟩
  case round =>
    obtain ⟨j, hj, HXJ, HIJ⟩ := hrel
    rcases j with _ | j
    · have hX := HXJ.out
      rw [top_zero] at hX
      subst hX
      have hI := HIJ.out
      rw [show ((0 : Nat) : Int) - 1 = -1 from rfl] at hI
      subst hI
      go_wp2_with fail
      go_ret
      exact ⟨rfl, Below.refl _ _⟩
    · obtain rfl := HXJ.out
      have e1 : ((j + 1 : Nat) : Int) - 1 = (j : Int) := by omega
      have hI := HIJ.out
      rw [e1] at hI
      subst hI
      have j0 : (0 : Int) ≤ (j : Int) := by omega
      have j1 : (j : Int) < 64 := by omega
      have d0 : decide (0 ≤ (j : Int)) = true := decide_eq_true j0
      have z0 := uz_lo z; have z1 := uz_hi z; have x0 := uz_lo (topU (j + 1) y); have x1 := uz_hi (topU (j + 1) y)
      by_cases hjk : j + k < 64
      · have d1 : decide ((j : Int) + (k : Int) < 64) = true := decide_eq_true (by omega)
        have v1 : IntKind.i64.wrap ((j : Int) + (k : Int)) = ((j + k : Nat) : Int) := by rw [IntWalk.i64_in _ (by omega)]; omega
        have v2 : wrap64 ((j : Int) + (k : Int)) = ((j + k : Nat) : Int) := by rw [IntWalk.wrap64_in _ (by omega)]; omega
        have E : Hid (bits .or .u64 (uz (topU (j + 1) y)) (IntKind.u64.wrap (bits .xor .u64 (bits .and .u64 (uz z / 2 ^ j) 1) (bits .and .u64 (uz (topU (j + 1) y) / 2 ^ (j + k)) 1) * 2 ^ j)) = uz (topU j y)) := by
          show _ = _
          rw [uz_shr, uz_shr, and_one, and_one, uz_xor, uz_shl, uz_or, HZ.out]
          exact congrArg uz (back_low hk y)
        go_wp2_with fail
        clear v1 v2
        refine ⟨⟨j, by omega, ?_, rfl⟩, by simp [intOf]⟩
        show _ = _
        rw [E.out]
      · have d1 : decide ((j : Int) + (k : Int) < 64) = false := decide_eq_false (by omega)
        have v1 : IntKind.i64.wrap ((j : Int) + (k : Int)) = (j : Int) + (k : Int) := by rw [IntWalk.i64_in _ (by omega)]
        have v2 : wrap64 ((j : Int) + (k : Int)) = (j : Int) + (k : Int) := by rw [IntWalk.wrap64_in _ (by omega)]
        have E : Hid (bits .or .u64 (uz (topU (j + 1) y)) (IntKind.u64.wrap (bits .and .u64 (uz z / 2 ^ j) 1 * 2 ^ j)) = uz (topU j y)) := by
          show _ = _
          rw [uz_shr, and_one, uz_shl, uz_or, HZ.out]
          exact congrArg uz (back_high (by omega) y)
        go_wp2_with fail
        clear v1 v2
        refine ⟨⟨j, by omega, ?_, rfl⟩, by simp [intOf]⟩
        show _ = _
        rw [E.out]

theorem g_lit : uz gU = 11400714819323198485 := rfl
theorem a_lit : uz aU = 13787848793156543929 := rfl
theorem b_lit : uz bU = 10723151780598845931 := rfl

set_option maxHeartbeats 2000000 in
theorem rnumber9 (s i : UInt64) (w : World) : Calls Try.prog 31 #[.int .u64 (uz s), .int .u64 (uz i)] w fun e w' => e = .returned (.int .u64 (uz (numU s i))) ∧ Below w.heap.size w w' := by
  have e1 : IntKind.u64.wrap (uz i + 1) = uz (i + 1) := uz_add i 1
  have e2 : IntKind.u64.wrap (uz (i + 1) * 11400714819323198485) = uz ((i + 1) * gU) := by rw [← g_lit]; exact uz_mul _ _
  have e3 : IntKind.u64.wrap (uz s + uz ((i + 1) * gU)) = uz (s + (i + 1) * gU) := uz_add _ _
  obtain ⟨z, hz⟩ : ∃ z, z = s + (i + 1) * gU := ⟨_, rfl⟩
  rw [← hz] at e3
  obtain ⟨y, hy⟩ : ∃ y, y = mixU 30 z * aU := ⟨_, rfl⟩
  obtain ⟨x, hx⟩ : ∃ x, x = mixU 27 y * bU := ⟨_, rfl⟩
  have e4 : IntKind.u64.wrap (uz (mixU 30 z) * 13787848793156543929) = uz y := by rw [hy, ← a_lit]; exact uz_mul _ _
  have e5 : IntKind.u64.wrap (uz (mixU 27 y) * 10723151780598845931) = uz x := by rw [hx, ← b_lit]; exact uz_mul _ _
  have HN : Hid (numU s i = mixU 31 x) := by show _ = _; rw [hx, hy, hz]; rfl
  clear hx hy hz
  go_enter Try.func31, Try.ntmps31
  go_wp2_with fail
  refine (rshift9 z 30 (by decide) _).mono ?_
  rintro e w1 ⟨rfl, hb⟩
  have B1 := Lib.hid hb
  clear hb
  go_wp2_with fail
  refine (rshift9 y 27 (by decide) _).mono ?_
  rintro e w2 ⟨rfl, hb⟩
  have B2 := Lib.hid (chain B1.out hb)
  clear hb
  go_wp2_with fail
  refine (rshift9 x 31 (by decide) _).mono ?_
  rintro e w3 ⟨rfl, hb⟩
  have B3 := Lib.hid (chain B2.out hb)
  clear hb
  go_wp2_with fail
  go_ret
  exact ⟨by rw [HN.out]; rfl, B3.out⟩

set_option maxHeartbeats 2000000 in
theorem rwhich9 (s n : UInt64) (w : World) : Calls Try.prog 33 #[.int .u64 (uz s), .int .u64 (uz n)] w fun e w' => e = .returned (.int .u64 (uz (whichU s n))) ∧ Below w.heap.size w w' := by
  obtain ⟨y, hy⟩ : ∃ y, y = bakU 31 n * uinv bU := ⟨_, rfl⟩
  obtain ⟨x, hx⟩ : ∃ x, x = bakU 27 y * uinv aU := ⟨_, rfl⟩
  obtain ⟨z, hz⟩ : ∃ z, z = bakU 30 x := ⟨_, rfl⟩
  have e1 : IntKind.u64.wrap (uz (bakU 31 n) * uz (uinv bU)) = uz y := by rw [hy]; exact uz_mul _ _
  have e2 : IntKind.u64.wrap (uz (bakU 27 y) * uz (uinv aU)) = uz x := by rw [hx]; exact uz_mul _ _
  have e3 : IntKind.u64.wrap (uz z - uz s) = uz (z - s) := uz_sub _ _
  have e4 : IntKind.u64.wrap (uz (z - s) * uz (uinv gU)) = uz ((z - s) * uinv gU) := uz_mul _ _
  have e5 : IntKind.u64.wrap (uz ((z - s) * uinv gU) - 1) = uz ((z - s) * uinv gU - 1) := uz_sub _ 1
  have HW : Hid (whichU s n = (z - s) * uinv gU - 1) := by show _ = _; rw [hz, hx, hy]; rfl
  have IB : Hid (∀ w, Calls Try.prog 15 #[.int .u64 10723151780598845931] w fun e w' => e = .returned (.tuple #[.int .u64 (uz (uinv bU)), .bool true]) ∧ w = w') := fun w => rinverse_odd bU w (by decide)
  have IA : Hid (∀ w, Calls Try.prog 15 #[.int .u64 13787848793156543929] w fun e w' => e = .returned (.tuple #[.int .u64 (uz (uinv aU)), .bool true]) ∧ w = w') := fun w => rinverse_odd aU w (by decide)
  have IG : Hid (∀ w, Calls Try.prog 15 #[.int .u64 11400714819323198485] w fun e w' => e = .returned (.tuple #[.int .u64 (uz (uinv gU)), .bool true]) ∧ w = w') := fun w => rinverse_odd gU w (by decide)
  obtain ⟨pb, hpb⟩ : ∃ p, p = uinv bU := ⟨_, rfl⟩
  obtain ⟨pa, hpa⟩ : ∃ p, p = uinv aU := ⟨_, rfl⟩
  obtain ⟨pg, hpg⟩ : ∃ p, p = uinv gU := ⟨_, rfl⟩
  rw [← hpb] at IB e1
  rw [← hpa] at IA e2
  rw [← hpg] at IG e4 e5 HW
  have HZZ := Lib.hid hz
  clear hy hx hz hpb hpa hpg
  go_enter Try.func33, Try.ntmps33
  go_wp2_with fail
  refine (IB.out _).mono ?_
  rintro e w1 ⟨rfl, rfl⟩
  go_wp2_with fail
  refine (IA.out _).mono ?_
  rintro e w1 ⟨rfl, rfl⟩
  go_wp2_with fail
  refine (IG.out _).mono ?_
  rintro e w1 ⟨rfl, rfl⟩
  go_wp2_with fail
  refine (rback9 n 31 (by decide) (by decide) (by decide) _).mono ?_
  rintro e w1 ⟨rfl, hb⟩
  have B1 := Lib.hid hb
  clear hb
  go_wp2_with fail
  refine (rback9 y 27 (by decide) (by decide) (by decide) _).mono ?_
  rintro e w2 ⟨rfl, hb⟩
  have B2 := Lib.hid (chain B1.out hb)
  clear hb
  go_wp2_with fail
  refine (rback9 x 30 (by decide) (by decide) (by decide) _).mono ?_
  rintro e w3 ⟨rfl, hb⟩
  rw [← HZZ.out]
  have B3 := Lib.hid (chain B2.out hb)
  clear hb
  go_wp2_with fail
  go_ret
  exact ⟨by rw [HW.out]; rfl, B3.out⟩

theorem uz_conv (k : Nat) : IntKind.u64.wrap (k : Int) = uz (UInt64.ofNat k) := by
  rw [IntKind.wrap_u64]; unfold uz; rw [UInt64.toNat_ofNat']; omega

set_option maxHeartbeats 4000000 in
set_option maxRecDepth 100000 in
theorem rrow9 (s f : UInt64) (m : Int) (w : World) : Calls Try.prog 35 #[.int .u64 (uz s), .int .u64 (uz f), .int .i64 m] w (RowTo ucells (rowN s f m) w) := by
  obtain ⟨i0, hi, hz0, hz1, hz2⟩ := info_parts Try.info23
  by_cases h0 : ¬ 0 < m
  · have d : decide (0 < m) = false := decide_eq_false h0
    have E : Hid (rowN s f m = []) := by
      show _ = _
      unfold rowN rowU
      rw [if_pos (by omega), show m.toNat = 0 by omega]; rfl
    clear h0
    go_enter Try.func35, Try.ntmps35
    go_wp2_with fail
    go_loopg [7, 8] 0 (fun _ s7 s8 wx => s7 = .slice none 0 0 ∧ s8 = .int .i64 0 ∧ wx = w)
    case atStart => exact ⟨rfl, rfl, rfl⟩
    case round =>
      obtain ⟨rfl, rfl, rfl⟩ := hrel
      go_wp2_with fail
      go_ret
      exact ⟨none, 0, 0, rfl, by rw [E.out]; rfl, by rw [E.out]; exact Rg.nil _ _ _, Below.refl _ _, Nat.le_refl _, Nat.zero_le _⟩
  have h0 := Decidable.not_not.1 h0
  obtain ⟨M, rfl⟩ : ∃ M : Nat, m = M := ⟨m.toNat, by omega⟩
  by_cases h1 : ¬ (M : Int) ≤ 4096
  · have d : decide (0 < (M : Int)) = true := decide_eq_true h0
    have d2 : decide (0 < M) = true := decide_eq_true (by omega)
    have d1 : decide ((M : Int) ≤ 4096) = false := decide_eq_false h1
    have E : Hid (rowN s f (M : Int) = []) := if_neg h1
    clear h0 h1
    go_enter Try.func35, Try.ntmps35
    go_wp2_with fail
    go_loopg [7, 8] 0 (fun _ s7 s8 wx => s7 = .slice none 0 0 ∧ s8 = .int .i64 0 ∧ wx = w)
    case atStart => exact ⟨rfl, rfl, rfl⟩
    case round =>
      obtain ⟨rfl, rfl, rfl⟩ := hrel
      go_wp2_with fail
      go_ret
      exact ⟨none, 0, 0, rfl, by rw [E.out]; rfl, by rw [E.out]; exact Rg.nil _ _ _, Below.refl _ _, Nat.le_refl _, Nat.zero_le _⟩
  have h1 := Decidable.not_not.1 h1
  have d1 : decide ((M : Int) ≤ 4096) = true := decide_eq_true h1
  have M4 : M ≤ 4096 := by omega
  have d2 : decide (M ≤ 4096) = true := decide_eq_true M4
  have E : Hid (rowN s f (M : Int) = rowU s f M) := by show _ = _; unfold rowN; rw [if_pos h1]; rfl
  clear h0 h1
  go_enter Try.func35, Try.ntmps35
  go_wp2_with fail
  go_loopg [7, 8] M (fun gh s7 s8 wx => ∃ k : Nat, k ≤ M ∧ Hid (gh = M - k) ∧ s8 = .int .i64 (k : Int) ∧ Hid (wx.ownsRow w.heap.size 23 1 s7 (rowU s f k).length ((rowU s f k).flatMap ucells)) ∧ Hid (Below w.heap.size w wx))
  case atStart => exact ⟨0, by omega, by show _ = _; omega, rfl, World.ownsRow_nil _ _ _ _, Below.refl _ _⟩
  case round =>
    obtain ⟨k, hk, HG, rfl, OW, BK⟩ := hrel
    by_cases kn : k < M
    · have ki : (k : Int) < (M : Int) := by omega
      have ka : (0 : Int) ≤ (k : Int) := by omega
      have c1 := uz_conv k
      have e1 : IntKind.u64.wrap (uz f + uz (UInt64.ofNat k)) = uz (f + UInt64.ofNat k) := uz_add _ _
      have HU : Hid (IntKind.u64.wrap (k : Int) = uz (UInt64.ofNat k)) := c1
      obtain ⟨x, hx⟩ : ∃ x, x = numU s (f + UInt64.ofNat k) := ⟨_, rfl⟩
      have E1 : Hid (rowU s f (k + 1) = rowU s f k ++ [x]) := by show _ = _; rw [hx]; exact srow_next s f k
      have HXX := Lib.hid hx
      have LK := Lib.hid (srow_len s f k)
      clear hx
      go_wp2_with fail
      refine (rnumber9 s (f + UInt64.ofNat k) _).mono ?_
      rintro e w2 ⟨rfl, hb⟩
      rw [← HXX.out]
      have B2 := Lib.hid (chain BK.out hb)
      have O2 := Lib.hid (own_belowE OW.out hb)
      have hs := B2.out.size
      have kl : (rowU s f k).length ≤ 4096 := by rw [LK.out]; omega
      clear hb OW BK
      go_wp2_with (at_builtin; refine wpList_append_own _ rfl _ _ 22 rfl w.heap.size 23 i0 (.int .u64 0) 1 8 Try.underlying22 hi hz0 hz1 hz2 rfl (by decide) _ _ _ rfl (O2.out.alloc _) ⟨w2.heap.size, 0, none⟩ 1 1 (ucells x) rfl rfl ?c1 (ucells_one _) ?c3 ?c4 ?c5 ?_)
      case c1 => first | exact fun _ _ h => h | exact new_cells
      case c3 => unfold maxLen; omega
      case c4 => omega
      case c5 => first | omega | (simp; omega)
      intro v' w4 hown2 hgrow hcp
      clear hcp
      have O4 : Hid (w4.ownsRow w.heap.size 23 1 v' (rowU s f (k + 1)).length ((rowU s f (k + 1)).flatMap ucells)) := by
        show World.ownsRow _ _ _ _ _ _ _
        rw [E1.out, List.length_append, List.flatMap_append]
        simpa using hown2
      have B4 : Hid (Below w.heap.size w w4) := (B2.out.alloc hs _).grown hgrow (by simp; omega) (fun q hqq => (O2.out.lt _ hqq).1)
      clear hown2 hgrow O2 B2 hs c1 e1
      go_wp2_with fail
      go_roundg (M - (k + 1))
      case measure => have := HG.out; omega
      case rel => exact ⟨k + 1, by omega, rfl, by go_num, O4, B4⟩
    · obtain rfl : k = M := by omega
      obtain ⟨A', c', rfl, z1, hr, e3, e4⟩ := own_cap ucells_len (by decide) OW.out
      have HR := Lib.hid hr; have E3 := Lib.hid e3; have E4 := Lib.hid e4; have Z1 := Lib.hid z1
      clear hr z1 e3 e4
      go_wp2_with fail
      go_ret
      exact ⟨A', c', _, rfl, by rw [E.out], by rw [E.out]; exact HR.out, BK.out, E3.out, E4.out⟩

end Go.Proofs.Ytggbhoanffdjbaa
