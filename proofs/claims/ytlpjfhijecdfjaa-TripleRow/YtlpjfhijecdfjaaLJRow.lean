/-
  TripleRow: a row is its parts, wherever it is cut; each half stands in its place; too many, or none, are none.
-/
import Derived.Test.YtlpjfhijecdfjaaJHead
import Derived.Maps.AppendAt
import Derived.Deep.RegionHeld3
import Derived.Deep.LoopGhost
namespace Go.Proofs.Ytlpjfhijecdfjaa
open Go.RowKit

theorem tp_nil_run {w : World} {B n c : Nat} {v : Value} {us : List Value} (h : w.ownsRow B 25 3 v n us) (ty : TypeId) :
    (Builtin.append_ #[28, 28] ty #[v, .slice none 0 c]).run Try.prog w = .ok v w := by
  obtain ⟨i0, hi, hz0, hz1, hz2⟩ := info_parts Try.info25
  rcases h.2 with ⟨rfl, rfl⟩ | ⟨g, cap, cur, rfl, _, _, hnc, _⟩
  · simp [Builtin.append_, run_underlying Try.underlying28, sizeOf, typeInfo, hi, Builtin.lenOf, Builtin.firstCells]
  · simp [Builtin.append_, run_underlying Try.underlying28, sizeOf, typeInfo, hi, Builtin.lenOf, Builtin.firstCells, hnc, storeCells]
/-- What an append of a whole row onto one that the call has made comes to. -/
theorem tp_append_run {w : World} {B n m : Nat} {v : Value} {xs ys : List Tp} (h : w.ownsRow B 25 3 v n (xs.flatMap tpcells)) (A : Option Addr) (c : Nat) (hy : Rg tpcells w A ys) (hm : m = ys.length)
    (hs : n + m ≤ 1000000) (hB : B ≤ w.heap.size) :
    ∃ v' w', (Builtin.append_ #[28, 28] 28 #[v, .slice A m c]).run Try.prog w = .ok v' w' ∧ w'.ownsRow B 25 3 v' (n + m) ((xs ++ ys).flatMap tpcells) ∧ Below B w w' := by
  obtain ⟨i0, hi, hz0, hz1, hz2⟩ := info_parts Try.info25
  have hrows : ∀ k, v.ownBlock = some k → B ≤ k := fun k hk => (h.lt k hk).1
  rcases A with _ | ad
  · have hy0 : ys = [] := by
      cases ys with
      | nil => rfl
      | cons y ys => obtain ⟨b, off, e, _⟩ := hy (by simp); cases e
    subst hy0
    obtain rfl : m = 0 := hm
    exact ⟨v, w, tp_nil_run h 28, by simpa using h, Below.refl _ _⟩
  · have hcells : ∀ j u, (ys.flatMap tpcells)[j]? = some u → w.cell? (ad.add j) = some u := fun j u hu => by
      have hj : 0 < ys.length := by
        have := (List.getElem?_eq_some_iff.1 hu).1
        rw [flat_len tpcells_len] at this; omega
      obtain ⟨b, off, e, _, hc⟩ := hy (by omega)
      obtain rfl := Option.some.inj e
      rw [show (⟨b, off, none⟩ : Addr).add j = ⟨b, off + j, none⟩ by unfold Addr.add; split <;> simp_all]
      exact hc j u hu
    obtain ⟨v', w', hrun, h2, h3, _, _⟩ := run_append_own_at (P := Try.prog) w B 28 28 25 i0 (.agg #[.int .u64 0, .int .u64 0, .int .u64 0]) 3 24 Try.underlying28 hi hz0 hz1 hz2 rfl (by decide) v n (xs.flatMap tpcells) h ad m c (ys.flatMap tpcells) (by rw [flat_len tpcells_len, hm]) hcells (fun u hu => by obtain ⟨y, _, hy2⟩ := List.mem_flatMap.1 hu; exact tpcells_one y u hy2) (by unfold maxLen; omega) (by omega) hB
    exact ⟨v', w', hrun, by rw [List.flatMap_append]; exact h2, (Below.refl B w).grown h3 hB hrows⟩
/-- An append whose run is known, under a guard that says yes. -/
theorem tp_append_want {ops : Array Oper} {rest : List Oper} {o : Oper} {a : Act} {Q : Exit → Act → World → Prop} {w w' : World} {v xv v' : Value} (hw : Region.wanted o (yielded ops a.tmps) = true) (s x : Operand)
    (ho : o.op = .call { callee := .builtin .append, args := #[s, x], argTypes := #[28, 28] }) (hs : a.eval s = v) (hx : a.eval x = xv) (hrun : (Builtin.append_ #[28, 28] 28 #[v, xv]).run Try.prog w = .ok v' w')
    (h : wpList Try.prog ops Q rest (a.put o.dst v') w') : wpList Try.prog ops Q (o :: rest) a w :=
  BigFrame.wpList_want hw fun K hK => by
    have e : Builtin.append_ #[28, 28] o.type #[v, xv] = Builtin.append_ #[28, 28] 28 #[v, xv] := rfl
    unfold Oper.wp execOp
    simp only [ho, resolve, invoke, builtin, Sem.run_bind, Sem.run_pure, Result.andThen_ok, List.map_toArray, List.map_cons, List.map_nil, hs, hx, e, hrun]
    exact hK _ _ h
theorem tp_empty (w : World) : (w.alloc (.cells #[] 25)).ownsRow w.heap.size 25 3 (.slice (some ⟨w.heap.size, 0, none⟩) 0 0) 0 (([] : List Tp).flatMap tpcells) :=
  World.ownsRow_lit w #[] 0 (Nat.le_refl _) (by decide) rfl

set_option maxHeartbeats 8000000 in
set_option maxRecDepth 100000 in
theorem law_jrow (s : UInt64) (a : Int) (f : UInt64) (m q : Int) (w : World) (bm : 0 ≤ m ∧ m ≤ 65535) (bq : 0 ≤ q ∧ q ≤ 65535) :
    Calls Try.prog 5 #[.int .u64 (uz s), .int .i64 a, .int .u64 (uz f), .int .u16 m, .int .u16 q] w fun e w' => e = .returned (.bool true) ∧ Below w.heap.size w w' := by
  obtain ⟨bm0, bm1⟩ := bm
  obtain ⟨bq0, bq1⟩ := bq
  obtain ⟨n, hn⟩ : ∃ n : Nat, m % 5000 = n := ⟨(m % 5000).toNat, by omega⟩
  have n5 : n < 5000 := by omega
  by_cases h4 : 4096 < n
  · have d : decide (4096 < (n : Int)) = true := decide_eq_true (by omega)
    have d2 : decide (4096 < n) = true := decide_eq_true h4
    have C1 : Hid (∀ w, Calls Try.prog 14 #[.int .u64 (uz s), .int .i64 a, .int .u64 (uz f), .int .i64 (n : Int)] w (RowTo tpcells [] w)) := fun w => by
      have := row11 s a f (n : Int) w
      rw [show rowTN s a f (n : Int) = [] from if_neg (by omega)] at this
      exact this
    clear h4
    go_enter Try.func5, Try.ntmps5
    go_wp2_with fail
    refine (head11_any _).mono ?_
    rintro e w1 ⟨rfl, hb⟩
    have B1 := Lib.hid hb
    clear hb
    go_wp2_with fail
    refine (C1.out _).mono ?_
    rintro e w2 ⟨A1, k1, n1, rfl, hn, hR, hb, hd1, hd2⟩
    have B2 := Lib.hid (chain B1.out hb)
    have R1 := Lib.hid hR; have M1 := Lib.hid hn
    clear hb hR hn hd1 hd2
    obtain rfl : n1 = 0 := M1.out
    go_wp2_with fail
    go_ret
    exact ⟨rfl, B2.out⟩
  have d : decide (4096 < (n : Int)) = false := decide_eq_false (by omega)
  have d2 : decide (4096 < n) = false := decide_eq_false h4
  have C1 : Hid (∀ (w : World) (k : Nat), k ≤ 4096 → Calls Try.prog 14 #[.int .u64 (uz s), .int .i64 a, .int .u64 (uz f), .int .i64 (k : Int)] w (RowTo tpcells (rowT s a f k) w)) := fun w k hk => by
    have := row11 s a f (k : Int) w
    rw [show rowTN s a f (k : Int) = rowT s a f k by unfold rowTN; rw [if_pos (by omega)]; rfl] at this
    exact this
  obtain ⟨k, hk⟩ : ∃ k : Nat, q % ((n : Int) + 1) = (k : Int) := ⟨(q % ((n : Int) + 1)).toNat, by have := Int.emod_nonneg q (show ((n : Int) + 1) ≠ 0 by omega); omega⟩
  have hkn : k ≤ n := by have := Int.emod_lt_of_pos q (show 0 < (n : Int) + 1 by omega); omega
  have hk2 : q.tmod ((n : Int) + 1) = (k : Int) := by rw [Int.tmod_eq_emod_of_nonneg bq0]; exact hk
  have hn0 : ¬ (n : Int) + 1 = 0 := by omega
  obtain ⟨j, hj⟩ : ∃ j, n = k + j := ⟨n - k, by omega⟩
  obtain ⟨g, hg⟩ : ∃ g, g = f + UInt64.ofNat k := ⟨_, rfl⟩
  have j4 : j ≤ 4096 := by omega
  have C2 : Hid (∀ w, Calls Try.prog 14 #[.int .u64 (uz s), .int .i64 a, .int .u64 (uz g), .int .i64 (j : Int)] w (RowTo tpcells (rowT s a g j) w)) := fun w => by
    have := row11 s a g (j : Int) w
    rw [show rowTN s a g (j : Int) = rowT s a g j by unfold rowTN; rw [if_pos (by omega)]; rfl] at this
    exact this
  have CUT : Hid (rowT s a f k ++ rowT s a g j = rowT s a f n) := by show _ = _; rw [hg, hj]; exact (trow_cut s a f k j).symm
  have HJ := Lib.hid hj
  have n4 : n ≤ 4096 := by omega
  have k4 : k ≤ 4096 := by omega
  have V1 : Hid (IntKind.i64.wrap ((n : Int) - (k : Int)) = (j : Int)) := by show _ = _; rw [IntWalk.i64_in _ (by omega)]; omega
  have V2 : Hid (wrap64 ((n : Int) - (k : Int)) = (j : Int)) := by show _ = _; rw [IntWalk.wrap64_in _ (by omega)]; omega
  have u1 := uz_conv k
  have u2 : IntKind.u64.wrap (uz f + uz (UInt64.ofNat k)) = uz g := by rw [hg]; exact uz_add _ _
  have nn : ((n : Int) != (n : Int)) = false := by simp
  clear hj hk hg h4 hkn
  go_enter Try.func5, Try.ntmps5
  go_wp2_with fail
  refine (head11_any _).mono ?_
  rintro e w1 ⟨rfl, hb⟩
  have B1 := Lib.hid hb
  clear hb
  go_wp2_with fail
  refine (C1.out _ n n4).mono ?_
  rintro e w2 ⟨A1, k1, n1, rfl, hn, hR, hb, hd1, hd2⟩
  have B2 := Lib.hid (chain B1.out hb)
  have R1 := Lib.hid hR; have M1 := Lib.hid hn
  clear hb hR hn hd1 hd2
  rw [trow_len] at M1
  obtain rfl : n1 = n := M1.out
  go_wp2_with fail
  refine (C1.out _ k k4).mono ?_
  rintro e w3 ⟨A2, k2, n2, rfl, hn, hR, hb, hd1, hd2⟩
  have B3 := Lib.hid (chain B2.out hb)
  have R2 := Lib.hid hR; have M2 := Lib.hid hn
  have R1 := Lib.hid (R1.out.below hb)
  clear hb hR hn hd1 hd2
  rw [trow_len] at M2
  obtain rfl : n2 = k := M2.out
  have v1 := V1.out; have v2 := V2.out
  go_wp2_with fail
  refine (C2.out _).mono ?_
  rintro e w4 ⟨A3, k3, n3, rfl, hn, hR, hb, hd1, hd2⟩
  have B4 := Lib.hid (chain B3.out hb)
  have R3 := Lib.hid hR; have M3 := Lib.hid hn
  have R1 := Lib.hid (R1.out.below hb)
  have R2 := Lib.hid (R2.out.below hb)
  clear hb hR hn hd1 hd2
  rw [trow_len] at M3
  obtain rfl : n3 = j := M3.out
  clear v1 v2 u1 u2 d d2 nn
  go_wp2_with fail
  go_loopg [17] n1 (fun gh s17 wx => ∃ i : Nat, i ≤ n1 ∧ Hid (gh = n1 - i) ∧ s17 = .int .i64 (i : Int) ∧ Hid (Below w4.heap.size w4 wx))
  case atStart => exact ⟨0, Nat.zero_le _, by show _ = _; omega, rfl, Below.refl _ _⟩
  case round =>
    obtain ⟨i, hi, HGH, rfl, BI⟩ := hrel
    by_cases im : i < n1
    · have ii : (i : Int) < (n1 : Int) := by omega
      have ia : (0 : Int) ≤ (i : Int) := by omega
      obtain ⟨bL, oL, rfl, lL, qL⟩ := R1.out (by rw [trow_len]; omega)
      obtain ⟨x, hx⟩ : ∃ x, x = halfU s a (f + UInt64.ofNat i) := ⟨_, rfl⟩
      have gx : (rowT s a f n1)[i]? = some x := by rw [hx]; exact trow_get im
      obtain ⟨t0, t1, t2⟩ := tp_cells qL gx
      have z0 := (BI.out.cell (p := ⟨bL, oL + i * 3, none⟩) lL).trans t0
      have z1 := (BI.out.cell (p := ⟨bL, oL + i * 3 + 1, none⟩) lL).trans t1
      have z2 := (BI.out.cell (p := ⟨bL, oL + i * 3 + 2, none⟩) lL).trans t2
      obtain ⟨y, hy⟩ : ∃ y, y = f + UInt64.ofNat i := ⟨_, rfl⟩
      have u1 := uz_conv i
      have u2 : IntKind.u64.wrap (uz f + uz (UInt64.ofNat i)) = uz y := by rw [hy]; exact uz_add _ _
      have CN : Hid (∀ w, Calls Try.prog 11 #[.int .u64 (uz s), .int .i64 a, .int .u64 (uz y)] w fun e w' => e = .returned (tpv x) ∧ Below w.heap.size w w') := fun w => by rw [hx, hy]; exact half11 s a _ w
      have xx := tp_ne x
      have IM : Hid (i < n1) := im
      have lL2 : bL < wr.heap.size := Nat.lt_of_lt_of_le lL BI.out.size
      clear qL gx hx hy im t0 t1 t2
      go_wp2_with fail
      refine wp_region_noPanic ?_
      refine wp_region_held_drew (S := fun w' => w'.cell? ⟨bL, oL + i * 3, none⟩ = some (.int .u64 (uz x.a)) ∧ w'.cell? ⟨bL, oL + i * 3 + 1, none⟩ = some (.int .u64 (uz x.b)) ∧ w'.cell? ⟨bL, oL + i * 3 + 2, none⟩ = some (.int .u64 (uz x.c))) (by kernel_rfl) ⟨z0, z1, z2⟩ (fun hHeld => ?_)
      have HC0 : Hid (Below wr.heap.size wr wr.drew) := below_drew wr
      refine wpAnyH_take (i := 0) (v := ?vv1) (by simp only [List.getElem?_toArray, List.getElem?_cons_zero]; rfl) (by kernel_rfl) (by kernel_rfl) (by kernel_rfl) (fun _ _ _ h => h) (Or.inl ⟨by rfl, ?yy1⟩) (by assumption) ?rr1
      case yy1 => (intro w hSw; (try dsimp only at hSw); go_simp; first | done | with_reducible rfl)
      simp only [Act.put, List.setIfInBounds_toArray, List.set_cons_zero, List.set_cons_succ]
      refine wpAnyH_take (i := 1) (v := ?vv2) (by simp only [List.getElem?_toArray, List.getElem?_cons_zero, List.getElem?_cons_succ]; rfl) (by kernel_rfl) (by kernel_rfl) (by kernel_rfl) (fun _ _ _ h => h) (Or.inl ⟨by rfl, ?yy2⟩) (by assumption) ?rr2
      case yy2 => (intro w hSw; (try dsimp only at hSw); go_simp; first | done | with_reducible rfl)
      simp only [Act.put, List.setIfInBounds_toArray, List.set_cons_zero, List.set_cons_succ]
      refine wpAnyH_take (i := 2) (v := ?vv3) (by simp only [List.getElem?_toArray, List.getElem?_cons_zero, List.getElem?_cons_succ]; rfl) (by kernel_rfl) (by kernel_rfl) (by kernel_rfl) (fun _ _ _ h => h) (Or.inl ⟨by rfl, ?yy3⟩) (by assumption) ?rr3
      case yy3 => (intro w hSw; (try dsimp only at hSw); go_simp; first | done | with_reducible rfl)
      simp only [Act.put, List.setIfInBounds_toArray, List.set_cons_zero, List.set_cons_succ]
      refine wpAnyH_take (i := 3) (v := ?vv4) (by simp only [List.getElem?_toArray, List.getElem?_cons_zero, List.getElem?_cons_succ]; rfl) (by kernel_rfl) (by kernel_rfl) (by kernel_rfl) (fun _ _ _ h => h) (Or.inl ⟨by rfl, ?yy4⟩) (by assumption) ?rr4
      case yy4 => (intro w hSw; (try dsimp only at hSw); go_simp; first | done | with_reducible rfl)
      simp only [Act.put, List.setIfInBounds_toArray, List.set_cons_zero, List.set_cons_succ]
      refine wpAnyH_take (i := 4) (v := ?vv5) (by simp only [List.getElem?_toArray, List.getElem?_cons_zero, List.getElem?_cons_succ]; rfl) (by kernel_rfl) (by kernel_rfl) (by kernel_rfl) (fun _ _ _ h => h) (Or.inl ⟨by rfl, ?yy5⟩) (by assumption) ?rr5
      case yy5 => (intro w hSw; (try dsimp only at hSw); go_simp; first | done | with_reducible rfl)
      simp only [Act.put, List.setIfInBounds_toArray, List.set_cons_zero, List.set_cons_succ]
      refine wpAnyH_take (i := 5) (v := ?vv6) (by simp only [List.getElem?_toArray, List.getElem?_cons_zero, List.getElem?_cons_succ]; rfl) (by kernel_rfl) (by kernel_rfl) (by kernel_rfl) (fun _ _ _ h => h) (Or.inl ⟨by rfl, ?yy6⟩) (by assumption) ?rr6
      case yy6 => (intro w hSw; (try dsimp only at hSw); go_simp; first | done | with_reducible rfl)
      simp only [Act.put, List.setIfInBounds_toArray, List.set_cons_zero, List.set_cons_succ]
      refine wpAnyH_take (i := 6) (v := ?vv7) (by simp only [List.getElem?_toArray, List.getElem?_cons_zero, List.getElem?_cons_succ]; rfl) (by kernel_rfl) (by kernel_rfl) (by kernel_rfl) (fun _ _ _ h => h) (Or.inl ⟨by rfl, ?yy7⟩) (by assumption) ?rr7
      case yy7 => (intro w hSw; (try dsimp only at hSw); go_simp; first | done | with_reducible rfl)
      simp only [Act.put, List.setIfInBounds_toArray, List.set_cons_zero, List.set_cons_succ]
      refine wpAnyH_take (i := 7) (v := ?vv8) (by simp only [List.getElem?_toArray, List.getElem?_cons_zero, List.getElem?_cons_succ]; rfl) (by kernel_rfl) (by kernel_rfl) (by kernel_rfl) (fun _ _ _ h => h) (Or.inl ⟨by rfl, ?yy8⟩) (by assumption) ?rr8
      case yy8 => (intro w hSw; (try dsimp only at hSw); go_simp; first | done | with_reducible rfl)
      simp only [Act.put, List.setIfInBounds_toArray, List.set_cons_zero, List.set_cons_succ]
      refine wpAnyH_take (i := 8) (v := ?vv9) (by simp only [List.getElem?_toArray, List.getElem?_cons_zero, List.getElem?_cons_succ]; rfl) (by kernel_rfl) (by kernel_rfl) (by kernel_rfl) (fun _ _ _ h => h) (Or.inl ⟨by rfl, ?yy9⟩) (by assumption) ?rr9
      case yy9 => (intro w hSw; (try dsimp only at hSw); go_simp; first | done | with_reducible rfl)
      simp only [Act.put, List.setIfInBounds_toArray, List.set_cons_zero, List.set_cons_succ]
      refine wpAnyH_take (i := 9) (v := ?vv10) (by simp only [List.getElem?_toArray, List.getElem?_cons_zero, List.getElem?_cons_succ]; rfl) (by kernel_rfl) (by kernel_rfl) (by kernel_rfl) (fun _ _ _ h => h) (Or.inl ⟨by rfl, ?yy10⟩) (by assumption) ?rr10
      case yy10 => (intro w hSw; (try dsimp only at hSw); go_simp; first | done | with_reducible rfl)
      simp only [Act.put, List.setIfInBounds_toArray, List.set_cons_zero, List.set_cons_succ]
      refine wpAnyH_ready (rs := [10]) (by kernel_rfl) (by simp) ?_
      refine AllReadyH.cons (by simp only [List.getElem?_toArray, List.getElem?_cons_zero, List.getElem?_cons_succ]; rfl) (fun K hK => ?_) AllReadyH.nil
      go_simp
      go_at_call 11
      (with_reducible refine (CN.out _).mono ?_)
      rintro e v1 ⟨rfl, hb⟩
      unfold tpv
      have HC1 := Lib.hid (HC0.out.trans (hb.mono HC0.out.size))
      clear hb hHeld
      have g0 := (HC1.out.cell (p := ⟨bL, oL + i * 3, none⟩) lL2).trans z0
      have g1 := (HC1.out.cell (p := ⟨bL, oL + i * 3 + 1, none⟩) lL2).trans z1
      have g2 := (HC1.out.cell (p := ⟨bL, oL + i * 3 + 2, none⟩) lL2).trans z2
      go_wp2_with fail
      refine hK.out _ _ ⟨g0, g1, g2⟩ (fun hHeld => ?_)
      clear hK K HC0
      try simp only [Act.put, List.setIfInBounds_toArray, List.set_cons_zero, List.set_cons_succ]
      refine wpAnyH_take (i := 11) (v := ?vv11) (by simp only [List.getElem?_toArray, List.getElem?_cons_zero, List.getElem?_cons_succ]; rfl) (by kernel_rfl) (by kernel_rfl) (by kernel_rfl) (fun _ _ _ h => h) (Or.inl ⟨by rfl, ?yy11⟩) (by assumption) ?rr11
      case yy11 => (intro w hSw; (try dsimp only at hSw); go_simp; first | done | with_reducible rfl)
      simp only [Act.put, List.setIfInBounds_toArray, List.set_cons_zero, List.set_cons_succ]
      refine wpAnyH_done (by kernel_rfl) ?_ _
      refine NoPanic.normal ?_
      have BE := Lib.hid (chain BI.out HC1.out)
      clear u1 u2
      go_wp2_with fail
      go_roundg (n1 - (i + 1))
      case measure => have := HGH.out; have := IM.out; omega
      case rel => exact ⟨i + 1, by have := IM.out; omega, rfl, by go_num, BE⟩
    · obtain rfl : i = n1 := by omega
      have B5 := Lib.hid (chain B4.out BI.out)
      have S1 := Lib.hid (R1.out.below BI.out); have S2 := Lib.hid (R2.out.below BI.out); have S3 := Lib.hid (R3.out.below BI.out)
      have hal := (Below.refl wr.heap.size wr).alloc (Nat.le_refl _) (.cells #[] 25)
      obtain ⟨v7, w7, run7, own7, b7⟩ := tp_append_run (tp_empty wr) A2 k2 (S2.out.below hal) (trow_len s a f n2).symm (by omega) (by simp)
      rw [Nat.zero_add, List.nil_append] at own7
      have b67 : Below wr.heap.size wr w7 := hal.trans b7
      obtain ⟨v8, w8, run8, own8, b8⟩ := tp_append_run own7 A3 k3 (S3.out.below b67) (trow_len s a g n3).symm (by omega) b67.size
      have b68 : Below wr.heap.size wr w8 := b67.trans b8
      rw [CUT.out] at own8
      obtain ⟨A8, c8, rfl, hn8, hr8⟩ := own_rg tpcells_len (by decide) own8
      have HR8 := Lib.hid hr8; have HN8 := Lib.hid hn8
      have S8 := Lib.hid (S1.out.below b68)
      have B8 := Lib.hid (chain B5.out b68)
      have RUN7 := Lib.hid run7; have RUN8 := Lib.hid run8
      have LE : Hid (n2 + n3 ≤ 5000) := by show _ ≤ _; have q := hn8; rw [trow_len] at q; omega
      clear hal own7 b7 b67 own8 b8 b68 hr8 hn8 run7 run8
      go_wp2_with (first
        | (at_builtin; refine tp_append_want (by first | (go_simp; done) | (simp [Region.wanted, yielded]; done)) (.tmp 78) (.tmp 79) rfl rfl rfl RUN7.out ?_; clear RUN7)
        | (at_builtin; refine tp_append_want (by first | (go_simp; done) | (simp [Region.wanted, yielded]; done)) (.tmp 80) (.tmp 81) rfl rfl rfl RUN8.out ?_; clear RUN8))
      refine (rsame11b A8 A1 c8 k1 (n2 + n3) i (rowT s a f i) _ HR8.out S8.out HN8.out (trow_len s a f i).symm LE.out).mono ?_
      rintro e w9 ⟨rfl, hb⟩
      have B9 := Lib.hid (chain B8.out hb)
      clear hb
      go_wp2_with fail
      go_ret
      exact ⟨rfl, B9.out⟩

end Go.Proofs.Ytlpjfhijecdfjaa
