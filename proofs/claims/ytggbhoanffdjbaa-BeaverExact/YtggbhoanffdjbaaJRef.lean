/-
  What the document's own functions of layer 11 answer: Half, Row, Same.
-/
import Derived.Test.YtggbhoanffdjbaaJMath
import Derived.Test.YtggbhoanffdjbaaSRef
import Derived.Laws.StructEq
namespace Go.Proofs.Ytggbhoanffdjbaa
open Go.RowKit

theorem Try.info37 : (Try.prog.info? 37).map (fun i => (i.zero, i.size, i.bytes)) = some (some (.agg #[.int .u64 0, .int .u64 0, .int .u64 0]), 3, 24) := by kernel_rfl
theorem tp_ne (t : Tp) (w : World) : (binOp .neq 37 (.agg #[.int .u64 (uz t.a), .int .u64 (uz t.b), .int .u64 (uz t.c)]) (.agg #[.int .u64 (uz t.a), .int .u64 (uz t.b), .int .u64 (uz t.c)])).run Try.prog w = .ok (.bool false) w := by
  go_simp
theorem tp_eq (t : Tp) (w : World) : (binOp .eql 37 (.agg #[.int .u64 (uz t.a), .int .u64 (uz t.b), .int .u64 (uz t.c)]) (.agg #[.int .u64 (uz t.a), .int .u64 (uz t.b), .int .u64 (uz t.c)])).run Try.prog w = .ok (.bool true) w := by
  go_simp

set_option maxHeartbeats 2000000 in
set_option maxRecDepth 100000 in
theorem rhalf11 (s : UInt64) (a : Int) (i : UInt64) (w : World) : Calls Try.prog 38 #[.int .u64 (uz s), .int .i64 a, .int .u64 (uz i)] w fun e w' => e = .returned (tpv (halfU s a i)) ∧ Below w.heap.size w w' := by
  have e0 : IntKind.u64.wrap (5 * uz i) = uz (5 * i) := uz_mul 5 i
  have e1 : IntKind.u64.wrap (uz (5 * i) + 1) = uz (5 * i + 1) := uz_add _ 1
  have e2 : IntKind.u64.wrap (uz (5 * i) + 2) = uz (5 * i + 2) := uz_add _ 2
  have e3 : IntKind.u64.wrap (uz (5 * i) + 3) = uz (5 * i + 3) := uz_add _ 3
  have e4 : IntKind.u64.wrap (uz (5 * i) + 4) = uz (5 * i + 4) := uz_add _ 4
  have C : Hid (∀ (j : UInt64) w, Calls Try.prog 31 #[.int .u64 (uz s), .int .u64 (uz j)] w fun e w' => e = .returned (.int .u64 (uz (numU s j))) ∧ Below w.heap.size w w') := fun j w => rnumber9 s j w
  obtain ⟨p, hp⟩ : ∃ p, p = numU s (5 * i) := ⟨_, rfl⟩
  obtain ⟨q, hq⟩ : ∃ q, q = numU s (5 * i + 1) := ⟨_, rfl⟩
  obtain ⟨r, hr⟩ : ∃ r, r = numU s (5 * i + 2) := ⟨_, rfl⟩
  obtain ⟨u, hu⟩ : ∃ u, u = numU s (5 * i + 3) := ⟨_, rfl⟩
  obtain ⟨v, hv⟩ : ∃ v, v = numU s (5 * i + 4) := ⟨_, rfl⟩
  have H0 := Lib.hid hp; have H1 := Lib.hid hq; have H2 := Lib.hid hr; have H3 := Lib.hid hu; have H4 := Lib.hid hv
  clear hp hq hr hu hv
  have Z : Hid (TC (w.alloc (.cells #[.int .u64 0, .int .u64 0, .int .u64 0] 37)) w.heap.size Tp.z) := heap_alloc_new w _
  have B0 := Lib.hid (chain_alloc (Below.refl _ w) (.cells #[.int .u64 0, .int .u64 0, .int .u64 0] 37))
  go_enter Try.func38, Try.ntmps38
  go_wp2_with fail
  refine (C.out _ _).mono ?_
  rintro e w1 ⟨rfl, hb⟩
  rw [← H0.out]
  have B1 := Lib.hid (chain B0.out hb)
  replace Z := Lib.hid (Z.out.below hb)
  clear hb B0
  go_wp2_with fail
  refine (C.out _ _).mono ?_
  rintro e w2 ⟨rfl, hb⟩
  rw [← H1.out]
  have B2 := Lib.hid (chain B1.out hb)
  replace Z := Lib.hid (Z.out.below hb)
  clear hb B1
  go_wp2_with fail
  refine (C.out _ _).mono ?_
  rintro e w3 ⟨rfl, hb⟩
  rw [← H2.out]
  have B3 := Lib.hid (chain B2.out hb)
  replace Z := Lib.hid (Z.out.below hb)
  clear hb B2
  go_wp2_with fail
  refine (C.out _ _).mono ?_
  rintro e w4 ⟨rfl, hb⟩
  rw [← H3.out]
  have B4 := Lib.hid (chain B3.out hb)
  replace Z := Lib.hid (Z.out.below hb)
  clear hb B3
  go_wp2_with fail
  refine (C.out _ _).mono ?_
  rintro e w5 ⟨rfl, hb⟩
  rw [← H4.out]
  have B5 := Lib.hid (chain B4.out hb)
  replace Z := Lib.hid (Z.out.below hb)
  clear hb B4
  obtain ⟨y0, y1, y2⟩ := Z.out.cells
  have f0 := Z.out.frozen 0
  have f1 := Z.out.frozen 1
  have f2 := Z.out.frozen 2
  have lz := Z.out.lt
  by_cases h0 : a = 0
  · have d : (a == 0) = true := by simp [h0]
    have E : Hid (halfU s a i = ⟨p, q, r⟩) := by show _ = _; rw [h0, half_zero, H0.out, H1.out, H2.out]
    clear h0 e0 e1 e2 e3 e4
    go_wp2_with fail
    exact bodyPost_ret (v := tpv ⟨p, q, r⟩) (by simp [results, Try.results38, go_sem, tpv, y0, y1, y2]) rfl ⟨by rw [E.out], below_set3 B5.out (Nat.le_refl _) _ _ _⟩
  · have d : (a == 0) = false := by simp [h0]
    have E : Hid (halfU s a i = ⟨u, v, (p + u) * (q + v) - r⟩) := by show _ = _; rw [half_one h0, H0.out, H1.out, H2.out, H3.out, H4.out]
    have g1 : IntKind.u64.wrap (uz p + uz u) = uz (p + u) := uz_add _ _
    have g2 : IntKind.u64.wrap (uz q + uz v) = uz (q + v) := uz_add _ _
    have g3 : IntKind.u64.wrap (uz (p + u) * uz (q + v)) = uz ((p + u) * (q + v)) := uz_mul _ _
    have g4 : IntKind.u64.wrap (uz ((p + u) * (q + v)) - uz r) = uz ((p + u) * (q + v) - r) := uz_sub _ _
    clear h0 e0 e1 e2 e3 e4
    go_wp2_with fail
    exact bodyPost_ret (v := tpv ⟨u, v, (p + u) * (q + v) - r⟩) (by simp [results, Try.results38, go_sem, tpv, y0, y1, y2]) rfl ⟨by rw [E.out], below_set3 B5.out (Nat.le_refl _) _ _ _⟩

set_option maxHeartbeats 2000000 in
theorem rsame11 (A B : Option Addr) (cA cB n : Nat) (ts : List Tp) (w : World) (ha : Rg tpcells w A ts) (hb : Rg tpcells w B ts) (ln : n = ts.length) (hn : n ≤ 5000) :
    Calls Try.prog 39 #[.slice A n cA, .slice B n cB] w fun e w' => e = .returned (.bool true) ∧ Below w.heap.size w w' := by
  have HA := Lib.hid ha; have HB := Lib.hid hb; have LX := Lib.hid ln
  clear ha hb ln
  go_enter Try.func39, Try.ntmps39
  go_wp2_with fail
  go_loopw [5] (fun i wr => ∃ k : Nat, k ≤ n ∧ i = .int .i64 k ∧ Hid (Below w.heap.size w wr)) (fun i _ => n - (intOf i).toNat)
  case atStart => exact ⟨0, Nat.zero_le _, rfl, Below.refl _ _⟩
  case round =>
    obtain ⟨k, hk, rfl, HC⟩ := hrel
    by_cases hlt : k < n
    · have hkl : k < ts.length := by rw [← LX.out]; exact hlt
      obtain ⟨b1, o1, rfl, l1, q⟩ := HA.out (by omega)
      obtain ⟨b2, o2, rfl, l2, r⟩ := HB.out (by omega)
      obtain ⟨t, ht⟩ : ∃ t, ts[k]? = some t := ⟨_, List.getElem?_eq_getElem hkl⟩
      obtain ⟨q0, q1, q2⟩ := tp_cells q ht
      obtain ⟨r0, r1, r2⟩ := tp_cells r ht
      have p0 := (HC.out.cell (p := ⟨b1, o1 + k * 3, none⟩) l1).trans q0
      have p1 := (HC.out.cell (p := ⟨b1, o1 + k * 3 + 1, none⟩) l1).trans q1
      have p2 := (HC.out.cell (p := ⟨b1, o1 + k * 3 + 2, none⟩) l1).trans q2
      have s0 := (HC.out.cell (p := ⟨b2, o2 + k * 3, none⟩) l2).trans r0
      have s1 := (HC.out.cell (p := ⟨b2, o2 + k * 3 + 1, none⟩) l2).trans r1
      have s2 := (HC.out.cell (p := ⟨b2, o2 + k * 3 + 2, none⟩) l2).trans r2
      have hne := tp_ne t
      clear q q0 q1 q2 r r0 r1 r2 ht
      go_wp2_with fail
      go_region
      go_wp2_with fail
      go_roundw
      case rel => exact ⟨k + 1, by omega, by go_num, HC.out.drew⟩
      case measure => simp [intOf]; omega
    · obtain rfl : k = n := by omega
      go_wp2_with fail
      go_ret
      exact ⟨rfl, HC.out⟩

set_option maxHeartbeats 4000000 in
set_option maxRecDepth 100000 in
theorem rrow11 (s : UInt64) (a : Int) (f : UInt64) (m : Int) (w : World) : Calls Try.prog 41 #[.int .u64 (uz s), .int .i64 a, .int .u64 (uz f), .int .i64 m] w (RowTo tpcells (rowTN s a f m) w) := by
  obtain ⟨i0, hi, hz0, hz1, hz2⟩ := info_parts Try.info37
  by_cases h0 : ¬ 0 < m
  · have d : decide (0 < m) = false := decide_eq_false h0
    have E : Hid (rowTN s a f m = []) := by
      show _ = _
      unfold rowTN rowT
      rw [if_pos (by omega), show m.toNat = 0 by omega]; rfl
    clear h0
    go_enter Try.func41, Try.ntmps41
    go_wp2_with fail
    go_loopg [9, 10] 0 (fun _ s9 s10 wx => s9 = .slice none 0 0 ∧ s10 = .int .i64 0 ∧ wx = w)
    case atStart => exact ⟨rfl, rfl, rfl⟩
    case round =>
      obtain ⟨rfl, rfl, rfl⟩ := hrel
      go_wp2_with fail
      go_ret
      exact ⟨none, 0, 0, rfl, by rw [E.out]; rfl, by rw [E.out]; exact Rg.nil _ _ _, Below.refl _ _, Nat.le_refl _, Nat.zero_le _⟩
  have h0 := Decidable.not_not.1 h0
  obtain ⟨M, rfl⟩ : ∃ M : Nat, m = M := ⟨m.toNat, by omega⟩
  by_cases h1 : ¬ (M : Int) ≤ 4096
  · have d : decide (0 < (M : Int)) = true := decide_eq_true h0
    have d2 : decide (0 < M) = true := decide_eq_true (by omega)
    have d1 : decide ((M : Int) ≤ 4096) = false := decide_eq_false h1
    have E : Hid (rowTN s a f (M : Int) = []) := if_neg h1
    clear h0 h1
    go_enter Try.func41, Try.ntmps41
    go_wp2_with fail
    go_loopg [9, 10] 0 (fun _ s9 s10 wx => s9 = .slice none 0 0 ∧ s10 = .int .i64 0 ∧ wx = w)
    case atStart => exact ⟨rfl, rfl, rfl⟩
    case round =>
      obtain ⟨rfl, rfl, rfl⟩ := hrel
      go_wp2_with fail
      go_ret
      exact ⟨none, 0, 0, rfl, by rw [E.out]; rfl, by rw [E.out]; exact Rg.nil _ _ _, Below.refl _ _, Nat.le_refl _, Nat.zero_le _⟩
  have h1 := Decidable.not_not.1 h1
  have d1 : decide ((M : Int) ≤ 4096) = true := decide_eq_true h1
  have M4 : M ≤ 4096 := by omega
  have d2 : decide (M ≤ 4096) = true := decide_eq_true M4
  have E : Hid (rowTN s a f (M : Int) = rowT s a f M) := by show _ = _; unfold rowTN; rw [if_pos h1]; rfl
  clear h0 h1
  go_enter Try.func41, Try.ntmps41
  go_wp2_with fail
  go_loopg [9, 10] M (fun gh s9 s10 wx => ∃ k : Nat, k ≤ M ∧ Hid (gh = M - k) ∧ s10 = .int .i64 (k : Int) ∧ Hid (wx.ownsRow w.heap.size 37 3 s9 (rowT s a f k).length ((rowT s a f k).flatMap tpcells)) ∧ Hid (Below w.heap.size w wx))
  case atStart => exact ⟨0, by omega, by show _ = _; omega, rfl, World.ownsRow_nil _ _ _ _, Below.refl _ _⟩
  case round =>
    obtain ⟨k, hk, HG, rfl, OW, BK⟩ := hrel
    by_cases kn : k < M
    · have ki : (k : Int) < (M : Int) := by omega
      have ka : (0 : Int) ≤ (k : Int) := by omega
      have c1 := uz_conv k
      have e1 : IntKind.u64.wrap (uz f + uz (UInt64.ofNat k)) = uz (f + UInt64.ofNat k) := uz_add _ _
      have HU : Hid (IntKind.u64.wrap (k : Int) = uz (UInt64.ofNat k)) := c1
      obtain ⟨x, hx⟩ : ∃ x, x = halfU s a (f + UInt64.ofNat k) := ⟨_, rfl⟩
      have E1 : Hid (rowT s a f (k + 1) = rowT s a f k ++ [x]) := by show _ = _; rw [hx]; exact trow_next s a f k
      have HXX := Lib.hid hx
      have LK := Lib.hid (trow_len s a f k)
      clear hx
      go_wp2_with fail
      refine (rhalf11 s a (f + UInt64.ofNat k) _).mono ?_
      rintro e w2 ⟨rfl, hb⟩
      rw [← HXX.out]
      unfold tpv
      have B2 := Lib.hid (chain BK.out hb)
      have O2 := Lib.hid (own_belowE OW.out hb)
      have hs := B2.out.size
      have kl : (rowT s a f k).length ≤ 4096 := by rw [LK.out]; omega
      clear hb OW BK
      go_wp2_with (at_builtin; refine wpList_append_own _ rfl _ _ 40 rfl w.heap.size 37 i0 (.agg #[.int .u64 0, .int .u64 0, .int .u64 0]) 3 24 Try.underlying40 hi hz0 hz1 hz2 rfl (by decide) _ _ _ rfl (O2.out.alloc _) ⟨w2.heap.size, 0, none⟩ 1 1 (tpcells x) rfl rfl ?c1 (tpcells_one _) ?c3 ?c4 ?c5 ?_)
      case c1 => first | exact fun _ _ h => h | exact new_cells
      case c3 => unfold maxLen; omega
      case c4 => omega
      case c5 => first | omega | (simp; omega)
      intro v' w4 hown2 hgrow hcp
      clear hcp
      have O4 : Hid (w4.ownsRow w.heap.size 37 3 v' (rowT s a f (k + 1)).length ((rowT s a f (k + 1)).flatMap tpcells)) := by
        show World.ownsRow _ _ _ _ _ _ _
        rw [E1.out, List.length_append, List.flatMap_append]
        simpa using hown2
      have B4 : Hid (Below w.heap.size w w4) := (B2.out.alloc hs _).grown hgrow (by simp; omega) (fun q hqq => (O2.out.lt _ hqq).1)
      clear hown2 hgrow O2 B2 hs c1 e1
      go_wp2_with fail
      go_roundg (M - (k + 1))
      case measure => have := HG.out; omega
      case rel => exact ⟨k + 1, by omega, rfl, by go_num, O4, B4⟩
    · obtain rfl : k = M := by omega
      obtain ⟨A', c', rfl, z1, hr, e3, e4⟩ := own_cap tpcells_len (by decide) OW.out
      have HR := Lib.hid hr; have E3 := Lib.hid e3; have E4 := Lib.hid e4; have Z1 := Lib.hid z1
      clear hr z1 e3 e4
      go_wp2_with fail
      go_ret
      exact ⟨A', c', _, rfl, by rw [E.out], by rw [E.out]; exact HR.out, BK.out, E3.out, E4.out⟩
theorem rsame11b (A B : Option Addr) (cA cB na nb : Nat) (ts : List Tp) (w : World) (ha : Rg tpcells w A ts) (hb : Rg tpcells w B ts) (la : na = ts.length) (lb : nb = ts.length) (hn : na ≤ 5000) :
    Calls Try.prog 39 #[.slice A na cA, .slice B nb cB] w fun e w' => e = .returned (.bool true) ∧ Below w.heap.size w w' := by
  obtain rfl : nb = na := by rw [la, lb]
  exact rsame11 A B cA cB nb ts w ha hb lb hn

end Go.Proofs.Ytggbhoanffdjbaa
