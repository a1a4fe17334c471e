/-
  What the document's own rows answer: Sub, Mul, Scale, Sum and Dot.
-/
import Derived.Test.YtbhmjmfappfjkaaRef2
namespace Go.Proofs.Ytbhmjmfappfjkaa
open Go.RowKit

set_option maxHeartbeats 400000 in
theorem rsub_core (A B : Option Addr) (cA cB na nb n : Nat) (xs ys : List UInt64) (w : World) (hx : Rd w A xs) (hy : Rd w B ys)
    (lx : xs.length = n) (ly : ys.length = n) (hn : n ≤ 1000000) (hc : (n = na ∧ n ≤ nb ∧ n ≤ nb) ∨ (n = nb ∧ n < na ∧ n ≤ na)) :
    Calls Try.prog 18 #[.slice A na cA, .slice B nb cB] w fun e w' => ∃ (A' : Option Addr) (c' : Nat), e = .returned (.slice A' n c') ∧ Rd w' A' (List.zipWith (· - ·) xs ys) ∧ Below w.heap.size w w' := by
  obtain ⟨i0, hi, hz0, hz1, hz2⟩ := info_parts Try.info23
  have HX := Lib.hid hx; clear hx
  have HY := Lib.hid hy; clear hy
  obtain ⟨zs, hzs⟩ : ∃ zs, zs = List.zipWith (· - ·) xs ys := ⟨_, rfl⟩
  rw [← hzs]
  have lz : zs.length = n := by rw [hzs]; simp [lx, ly]
  have HZ := Lib.hid hzs; clear hzs
  have LX := Lib.hid lx; clear lx
  have LY := Lib.hid ly; clear ly
  have LZ := Lib.hid lz; clear lz
  rcases hc with ⟨h1, h2, h3⟩ | ⟨h1, h2, h3⟩
  all_goals
    subst h1
    go_enter Try.func18, Try.ntmps18
    go_wp2_with fail
    go_loopw [5, 6] (fun v i wr => ∃ k : Nat, k ≤ n ∧ i = .int .i64 k ∧ Hid (wr.ownsRow w.heap.size 23 1 v k ((zs.take k).map fun u => Value.int .u64 (uz u))) ∧ Hid (Below w.heap.size w wr)) (fun _ i _ => n - (intOf i).toNat)
    case atStart => exact ⟨0, Nat.zero_le _, rfl, World.ownsRow_nil _ _ _ _, Below.refl _ _⟩
    case round =>
      obtain ⟨k, hk, rfl, HOk, HBk⟩ := hrel
      by_cases hlt : k < n
      · obtain ⟨b1, o1, rfl, l1, c1⟩ := HX.out (by rw [LX.out]; omega)
        obtain ⟨b2, o2, rfl, l2, c2⟩ := HY.out (by rw [LY.out]; omega)
        obtain ⟨x, HXk⟩ : ∃ x : UInt64, Hid (x = xs.getD k 0) := ⟨_, rfl⟩
        obtain ⟨y, HYk⟩ : ∃ y : UInt64, Hid (y = ys.getD k 0) := ⟨_, rfl⟩
        have d1 : wr.cell? ⟨b1, o1 + k, none⟩ = some (.int .u64 (uz x)) := by
          rw [HBk.out.cell (p := ⟨b1, o1 + k, none⟩) l1, c1 k (by rw [LX.out]; exact hlt), HXk.out]; rfl
        have d2 : wr.cell? ⟨b2, o2 + k, none⟩ = some (.int .u64 (uz y)) := by
          rw [HBk.out.cell (p := ⟨b2, o2 + k, none⟩) l2, c2 k (by rw [LY.out]; exact hlt), HYk.out]; rfl
        have hzk : zs[k]? = some (x - y) := by
          rw [HZ.out, HXk.out, HYk.out, List.getElem?_zipWith, List.getElem?_eq_getElem (by rw [LX.out]; exact hlt), List.getElem?_eq_getElem (by rw [LY.out]; exact hlt)]
          simp [List.getD_eq_getElem?_getD, LX.out, LY.out, hlt]
        have HZk := Lib.hid hzk; clear hzk
        have hq := Nat.lt_of_lt_of_le hlt h3
        have HU := Lib.hid (uz_sub x y)
        have hs := HBk.out.size
        clear c1 c2
        go_wp2_with fail
        have a1 : u5.ownBlock ≠ some b1 := fun h => absurd (HOk.out.lt _ h).1 (by omega)
        have a2 : u5.ownBlock ≠ some b2 := fun h => absurd (HOk.out.lt _ h).1 (by omega)
        have A1 := Lib.hid a1; clear a1
        have A2 := Lib.hid a2; clear a2
        have k0 : (0 : Int) ≤ (k : Int) := Int.natCast_nonneg _
        have k1 : (k : Int) < (n : Int) := by omega
        have k2 := Int.ofNat_lt.2 hq
        go_region_held3 (fun w' => w'.cell? ⟨b1, o1 + k, none⟩ = some (.int .u64 (uz x)) ∧ w'.cell? ⟨b2, o2 + k, none⟩ = some (.int .u64 (uz y)))
          (first
            | go_keep
            | (go_split_ands
               refine ⟨?_, ?_⟩
               · (rw [hgrow.cell_far _ (by simp; omega) (Ne.symm A1.out)]; assumption)
               · (rw [hgrow.cell_far _ (by simp; omega) (Ne.symm A2.out)]; assumption)))
          ((refine step_append_lies _ (by rfl) _ _ _ (by rfl) w.heap.size 23 i0 _ 1 8 Try.underlying22 hi hz0 hz1 hz2 rfl (by omega) u5 k ((zs.take k).map fun u => Value.int .u64 (uz u)) (by rfl) ((HOk.out.alloc _).drew) ⟨wr.heap.size, 0, none⟩ 1 1 [.int .u64 (IntKind.u64.wrap (uz x - uz y))] (by rfl) (by rfl) (World.news_of_block (cs := #[.int .u64 (IntKind.u64.wrap (uz x - uz y))]) (t := 23) (fr := (0, 0)) (heap_alloc_new wr _)) (by simp [Value.oneCell']) (by omega) (by unfold maxLen; omega) (by omega) (by simp; omega) (wr.heap.size + 1) (by simp) ?_; intro gg cap w2 hown2 hgrow hat hlt2))
        have HO2 : Hid (w2.ownsRow w.heap.size 23 1 (.slice (some ⟨gg, 0, none⟩) (k + 1) cap) (k + 1) ((zs.take (k + 1)).map fun u => Value.int .u64 (uz u))) := by
          obtain ⟨hkz, hzk⟩ := List.getElem?_eq_some_iff.1 HZk.out
          rw [List.take_succ_eq_append_getElem hkz, hzk, List.map_append, List.map_singleton, ← HU.out]
          exact hown2
        have HB2 : Hid (Below w.heap.size w w2) := ((HBk.out.alloc hs _).drew).grown hgrow (by simp; omega) (fun q hqq => (HOk.out.lt _ hqq).1)
        clear hown2 hgrow hat hlt2 HOk HBk HX HY d1 d2 HXk HYk HZk HU A1 A2 l1 l2 hs
        go_wp2_with fail
        go_roundw
        case rel => exact ⟨k + 1, by omega, by go_num, HO2, HB2⟩
        case measure => simp [intOf]; omega
      · obtain rfl : k = n := by omega
        have hf := HOk.out
        rw [List.take_of_length_le (by rw [LZ.out]; exact Nat.le_refl _)] at hf
        obtain ⟨A', c', rfl, hr⟩ := own_row hf
        have HR := Lib.hid hr; clear hr hf
        go_wp2_with fail
        go_ret
        exact ⟨A', c', rfl, HR.out, HBk.out⟩

set_option maxHeartbeats 400000 in
theorem rmul_core (A B : Option Addr) (cA cB na nb n : Nat) (xs ys : List UInt64) (w : World) (hx : Rd w A xs) (hy : Rd w B ys)
    (lx : xs.length = n) (ly : ys.length = n) (hn : n ≤ 1000000) (hc : (n = na ∧ n ≤ nb ∧ n ≤ nb) ∨ (n = nb ∧ n < na ∧ n ≤ na)) :
    Calls Try.prog 20 #[.slice A na cA, .slice B nb cB] w fun e w' => ∃ (A' : Option Addr) (c' : Nat), e = .returned (.slice A' n c') ∧ Rd w' A' (List.zipWith (· * ·) xs ys) ∧ Below w.heap.size w w' := by
  obtain ⟨i0, hi, hz0, hz1, hz2⟩ := info_parts Try.info23
  have HX := Lib.hid hx; clear hx
  have HY := Lib.hid hy; clear hy
  obtain ⟨zs, hzs⟩ : ∃ zs, zs = List.zipWith (· * ·) xs ys := ⟨_, rfl⟩
  rw [← hzs]
  have lz : zs.length = n := by rw [hzs]; simp [lx, ly]
  have HZ := Lib.hid hzs; clear hzs
  have LX := Lib.hid lx; clear lx
  have LY := Lib.hid ly; clear ly
  have LZ := Lib.hid lz; clear lz
  rcases hc with ⟨h1, h2, h3⟩ | ⟨h1, h2, h3⟩
  all_goals
    subst h1
    go_enter Try.func20, Try.ntmps20
    go_wp2_with fail
    go_loopw [5, 6] (fun v i wr => ∃ k : Nat, k ≤ n ∧ i = .int .i64 k ∧ Hid (wr.ownsRow w.heap.size 23 1 v k ((zs.take k).map fun u => Value.int .u64 (uz u))) ∧ Hid (Below w.heap.size w wr)) (fun _ i _ => n - (intOf i).toNat)
    case atStart => exact ⟨0, Nat.zero_le _, rfl, World.ownsRow_nil _ _ _ _, Below.refl _ _⟩
    case round =>
      obtain ⟨k, hk, rfl, HOk, HBk⟩ := hrel
      by_cases hlt : k < n
      · obtain ⟨b1, o1, rfl, l1, c1⟩ := HX.out (by rw [LX.out]; omega)
        obtain ⟨b2, o2, rfl, l2, c2⟩ := HY.out (by rw [LY.out]; omega)
        obtain ⟨x, HXk⟩ : ∃ x : UInt64, Hid (x = xs.getD k 0) := ⟨_, rfl⟩
        obtain ⟨y, HYk⟩ : ∃ y : UInt64, Hid (y = ys.getD k 0) := ⟨_, rfl⟩
        have d1 : wr.cell? ⟨b1, o1 + k, none⟩ = some (.int .u64 (uz x)) := by
          rw [HBk.out.cell (p := ⟨b1, o1 + k, none⟩) l1, c1 k (by rw [LX.out]; exact hlt), HXk.out]; rfl
        have d2 : wr.cell? ⟨b2, o2 + k, none⟩ = some (.int .u64 (uz y)) := by
          rw [HBk.out.cell (p := ⟨b2, o2 + k, none⟩) l2, c2 k (by rw [LY.out]; exact hlt), HYk.out]; rfl
        have hzk : zs[k]? = some (x * y) := by
          rw [HZ.out, HXk.out, HYk.out, List.getElem?_zipWith, List.getElem?_eq_getElem (by rw [LX.out]; exact hlt), List.getElem?_eq_getElem (by rw [LY.out]; exact hlt)]
          simp [List.getD_eq_getElem?_getD, LX.out, LY.out, hlt]
        have HZk := Lib.hid hzk; clear hzk
        have hq := Nat.lt_of_lt_of_le hlt h3
        have HU := Lib.hid (uz_mul x y)
        have hs := HBk.out.size
        clear c1 c2
        go_wp2_with fail
        have a1 : u5.ownBlock ≠ some b1 := fun h => absurd (HOk.out.lt _ h).1 (by omega)
        have a2 : u5.ownBlock ≠ some b2 := fun h => absurd (HOk.out.lt _ h).1 (by omega)
        have A1 := Lib.hid a1; clear a1
        have A2 := Lib.hid a2; clear a2
        have k0 : (0 : Int) ≤ (k : Int) := Int.natCast_nonneg _
        have k1 : (k : Int) < (n : Int) := by omega
        have k2 := Int.ofNat_lt.2 hq
        go_region_held3 (fun w' => w'.cell? ⟨b1, o1 + k, none⟩ = some (.int .u64 (uz x)) ∧ w'.cell? ⟨b2, o2 + k, none⟩ = some (.int .u64 (uz y)))
          (first
            | go_keep
            | (go_split_ands
               refine ⟨?_, ?_⟩
               · (rw [hgrow.cell_far _ (by simp; omega) (Ne.symm A1.out)]; assumption)
               · (rw [hgrow.cell_far _ (by simp; omega) (Ne.symm A2.out)]; assumption)))
          ((refine step_append_lies _ (by rfl) _ _ _ (by rfl) w.heap.size 23 i0 _ 1 8 Try.underlying22 hi hz0 hz1 hz2 rfl (by omega) u5 k ((zs.take k).map fun u => Value.int .u64 (uz u)) (by rfl) ((HOk.out.alloc _).drew) ⟨wr.heap.size, 0, none⟩ 1 1 [.int .u64 (IntKind.u64.wrap (uz x * uz y))] (by rfl) (by rfl) (World.news_of_block (cs := #[.int .u64 (IntKind.u64.wrap (uz x * uz y))]) (t := 23) (fr := (0, 0)) (heap_alloc_new wr _)) (by simp [Value.oneCell']) (by omega) (by unfold maxLen; omega) (by omega) (by simp; omega) (wr.heap.size + 1) (by simp) ?_; intro gg cap w2 hown2 hgrow hat hlt2))
        have HO2 : Hid (w2.ownsRow w.heap.size 23 1 (.slice (some ⟨gg, 0, none⟩) (k + 1) cap) (k + 1) ((zs.take (k + 1)).map fun u => Value.int .u64 (uz u))) := by
          obtain ⟨hkz, hzk⟩ := List.getElem?_eq_some_iff.1 HZk.out
          rw [List.take_succ_eq_append_getElem hkz, hzk, List.map_append, List.map_singleton, ← HU.out]
          exact hown2
        have HB2 : Hid (Below w.heap.size w w2) := ((HBk.out.alloc hs _).drew).grown hgrow (by simp; omega) (fun q hqq => (HOk.out.lt _ hqq).1)
        clear hown2 hgrow hat hlt2 HOk HBk HX HY d1 d2 HXk HYk HZk HU A1 A2 l1 l2 hs
        go_wp2_with fail
        go_roundw
        case rel => exact ⟨k + 1, by omega, by go_num, HO2, HB2⟩
        case measure => simp [intOf]; omega
      · obtain rfl : k = n := by omega
        have hf := HOk.out
        rw [List.take_of_length_le (by rw [LZ.out]; exact Nat.le_refl _)] at hf
        obtain ⟨A', c', rfl, hr⟩ := own_row hf
        have HR := Lib.hid hr; clear hr hf
        go_wp2_with fail
        go_ret
        exact ⟨A', c', rfl, HR.out, HBk.out⟩

theorem radd_any (A B : Option Addr) (cA cB na nb : Nat) (xs ys : List UInt64) (w : World) (hx : Rd w A xs) (hy : Rd w B ys) (lx : na = xs.length) (ly : nb = ys.length) (hn : na ≤ 1000000) :
    Calls Try.prog 16 #[.slice A na cA, .slice B nb cB] w (Row (List.zipWith (· + ·) xs ys) w) := by
  subst lx ly
  refine (radd_core A B cA cB xs.length ys.length (min xs.length ys.length) (xs.take (min xs.length ys.length)) (ys.take (min xs.length ys.length)) w (hx.take _) (hy.take _) (by simp) (by simp) (by omega) (by omega)).mono ?_
  rintro e w' ⟨A', c', he, hr, hb⟩
  rw [Rd.zip_take] at hr
  exact ⟨A', c', min xs.length ys.length, by simp, he, hr, hb⟩

theorem rsub_any (A B : Option Addr) (cA cB na nb : Nat) (xs ys : List UInt64) (w : World) (hx : Rd w A xs) (hy : Rd w B ys) (lx : na = xs.length) (ly : nb = ys.length) (hn : na ≤ 1000000) :
    Calls Try.prog 18 #[.slice A na cA, .slice B nb cB] w (Row (List.zipWith (· - ·) xs ys) w) := by
  subst lx ly
  refine (rsub_core A B cA cB xs.length ys.length (min xs.length ys.length) (xs.take (min xs.length ys.length)) (ys.take (min xs.length ys.length)) w (hx.take _) (hy.take _) (by simp) (by simp) (by omega) (by omega)).mono ?_
  rintro e w' ⟨A', c', he, hr, hb⟩
  rw [Rd.zip_take] at hr
  exact ⟨A', c', min xs.length ys.length, by simp, he, hr, hb⟩

theorem rmul_any (A B : Option Addr) (cA cB na nb : Nat) (xs ys : List UInt64) (w : World) (hx : Rd w A xs) (hy : Rd w B ys) (lx : na = xs.length) (ly : nb = ys.length) (hn : na ≤ 1000000) :
    Calls Try.prog 20 #[.slice A na cA, .slice B nb cB] w (Row (List.zipWith (· * ·) xs ys) w) := by
  subst lx ly
  refine (rmul_core A B cA cB xs.length ys.length (min xs.length ys.length) (xs.take (min xs.length ys.length)) (ys.take (min xs.length ys.length)) w (hx.take _) (hy.take _) (by simp) (by simp) (by omega) (by omega)).mono ?_
  rintro e w' ⟨A', c', he, hr, hb⟩
  rw [Rd.zip_take] at hr
  exact ⟨A', c', min xs.length ys.length, by simp, he, hr, hb⟩

set_option maxHeartbeats 400000 in
theorem rscale_any (m : UInt64) (A : Option Addr) (cA na : Nat) (xs : List UInt64) (w : World) (hx : Rd w A xs) (lx : na = xs.length) (hn : na ≤ 1000000) :
    Calls Try.prog 22 #[.int .u64 (uz m), .slice A na cA] w (Row (xs.map (m * ·)) w) := by
  obtain ⟨i0, hi, hz0, hz1, hz2⟩ := info_parts Try.info23
  have HX := Lib.hid hx; clear hx
  obtain ⟨zs, hzs⟩ : ∃ zs, zs = xs.map (m * ·) := ⟨_, rfl⟩
  rw [← hzs]
  have lz : zs.length = na := by rw [hzs, lx]; simp
  have HZ := Lib.hid hzs; clear hzs
  have LX := Lib.hid lx; clear lx
  have LZ := Lib.hid lz; clear lz
  go_enter Try.func22, Try.ntmps22
  go_wp2_with fail
  go_loopw [5, 6] (fun v i wr => ∃ k : Nat, k ≤ na ∧ i = .int .i64 k ∧ Hid (wr.ownsRow w.heap.size 23 1 v k ((zs.take k).map fun u => Value.int .u64 (uz u))) ∧ Hid (Below w.heap.size w wr)) (fun _ i _ => na - (intOf i).toNat)
  case atStart => exact ⟨0, Nat.zero_le _, rfl, World.ownsRow_nil _ _ _ _, Below.refl _ _⟩
  case round =>
    obtain ⟨k, hk, rfl, HOk, HBk⟩ := hrel
    by_cases hlt : k < na
    · obtain ⟨b1, o1, rfl, l1, c1⟩ := HX.out (by rw [← LX.out]; omega)
      obtain ⟨x, HXk⟩ : ∃ x : UInt64, Hid (x = xs.getD k 0) := ⟨_, rfl⟩
      have d1 : wr.cell? ⟨b1, o1 + k, none⟩ = some (.int .u64 (uz x)) := by
        rw [HBk.out.cell (p := ⟨b1, o1 + k, none⟩) l1, c1 k (by rw [← LX.out]; exact hlt), HXk.out]; rfl
      have hzk : zs[k]? = some (m * x) := by
        rw [HZ.out, HXk.out, List.getElem?_map, List.getElem?_eq_getElem (by rw [← LX.out]; exact hlt)]
        simp [List.getD_eq_getElem?_getD, ← LX.out, hlt]
      have HZk := Lib.hid hzk; clear hzk
      have HU := Lib.hid (uz_mul m x)
      have hs := HBk.out.size
      clear c1
      go_wp2_with (at_builtin; refine wpList_append_own _ rfl _ _ 22 rfl w.heap.size 23 i0 (.int .u64 0) 1 8 Try.underlying22 hi hz0 hz1 hz2 rfl (by decide) _ _ _ rfl (HOk.out.alloc _) ⟨wr.heap.size, 0, none⟩ 1 1 [.int .u64 (IntKind.u64.wrap (uz m * uz x))] rfl rfl ?c1 ?c2 ?c3 ?c4 ?c5 ?_)
      case c1 =>
        intro j u hj
        match j, hj with
        | 0, hj => simp at hj; subst hj; simp [Addr.add]
      case c2 => intro u hu; simp at hu; subst hu; rfl
      case c3 => unfold maxLen; omega
      case c4 => omega
      case c5 => simp; omega
      intro v' w2 hown2 hgrow _
      have HO2 : Hid (w2.ownsRow w.heap.size 23 1 v' (k + 1) ((zs.take (k + 1)).map fun u => Value.int .u64 (uz u))) := by
        obtain ⟨hkz, hzk⟩ := List.getElem?_eq_some_iff.1 HZk.out
        rw [List.take_succ_eq_append_getElem hkz, hzk, List.map_append, List.map_singleton, ← HU.out]
        rw [List.map_take]
        exact hown2
      have HB2 : Hid (Below w.heap.size w w2) := (HBk.out.alloc hs _).grown hgrow (by simp; omega) (fun q hqq => (HOk.out.lt _ hqq).1)
      clear hown2 hgrow HOk HBk HX d1 HXk HZk HU l1 hs
      go_wp2_with fail
      go_roundw
      case rel => exact ⟨k + 1, by omega, by go_num, HO2, HB2⟩
      case measure => simp [intOf]; omega
    · obtain rfl : k = na := by omega
      have hf := HOk.out
      rw [List.take_of_length_le (by rw [LZ.out]; exact Nat.le_refl _)] at hf
      obtain ⟨A', c', rfl, hr⟩ := own_row hf
      have HR := Lib.hid hr; clear hr hf
      go_wp2_with fail
      go_ret
      exact ⟨A', c', k, LZ.out.symm, rfl, HR.out, HBk.out⟩

set_option maxHeartbeats 400000 in
theorem rsum_any (A : Option Addr) (cA na : Nat) (xs : List UInt64) (w : World) (hx : Rd w A xs) (lx : na = xs.length) (hn : na ≤ 1000000) :
    Calls Try.prog 24 #[.slice A na cA] w fun e w' => e = .returned (.int .u64 (uz (usum xs))) ∧ w = w' := by
  have HX := Lib.hid hx; clear hx
  have LX := Lib.hid lx; clear lx
  go_enter Try.func24, Try.ntmps24
  go_wp2_with fail
  go_loop [3, 4] (fun s i => ∃ (k : Nat) (t : UInt64), k ≤ na ∧ i = .int .i64 k ∧ s = .int .u64 (uz t) ∧ Hid (t = usum (xs.take k))) (fun _ i => na - (intOf i).toNat)
  case atStart => exact ⟨0, 0, Nat.zero_le _, rfl, rfl, rfl⟩
  case round =>
    obtain ⟨k, t, hk, rfl, rfl, HT⟩ := hrel
    by_cases hlt : k < na
    · obtain ⟨b1, o1, rfl, l1, c1⟩ := HX.out (by rw [← LX.out]; omega)
      obtain ⟨x, HXk⟩ : ∃ x : UInt64, Hid (x = xs.getD k 0) := ⟨_, rfl⟩
      have d1 : w.cell? ⟨b1, o1 + k, none⟩ = some (.int .u64 (uz x)) := by
        rw [c1 k (by rw [← LX.out]; exact hlt), HXk.out]; rfl
      clear c1
      have HA := Lib.hid (uz_add t x)
      go_wp2
      go_round
      case rel => exact ⟨k + 1, t + x, by omega, by go_num, congrArg (Value.int .u64) HA.out, by show _ = _; rw [usum_take xs k (by rw [← LX.out]; exact hlt), ← HT.out, ← HXk.out]⟩
      case measure => simp [intOf]; omega
    · go_wp2
      go_ret
      have ht := HT.out
      rw [List.take_of_length_le (by rw [← LX.out]; omega)] at ht
      subst ht
      exact ⟨rfl, rfl⟩

set_option maxHeartbeats 400000 in
theorem rdot_any (A B : Option Addr) (cA cB na nb : Nat) (xs ys : List UInt64) (w : World) (hx : Rd w A xs) (hy : Rd w B ys) (lx : na = xs.length) (ly : nb = ys.length) (hn : na ≤ 1000000) :
    Calls Try.prog 26 #[.slice A na cA, .slice B nb cB] w fun e w' => e = .returned (.int .u64 (uz (udot xs ys))) ∧ Below w.heap.size w w' := by
  have HP := Lib.hid (rmul_any A B cA cB na nb xs ys w hx hy lx ly hn)
  have LX := Lib.hid lx
  clear hx hy lx ly
  go_enter Try.func26, Try.ntmps26
  go_wp2_with fail
  refine HP.out.mono ?_
  rintro e w1 ⟨A', c', n', hn', rfl, hr, hb⟩
  have hle : n' ≤ na := by rw [hn', LX.out]; simp; omega
  have HN := Lib.hid hn'; clear hn'
  have HR := Lib.hid hr; clear hr
  have HB := Lib.hid hb; clear hb
  go_wp2_with fail
  refine (rsum_any A' c' n' _ w1 HR.out HN.out (by omega)).mono ?_
  rintro e w2 ⟨rfl, rfl⟩
  go_wp2_with fail
  go_ret
  exact ⟨rfl, HB.out⟩

end Go.Proofs.Ytbhmjmfappfjkaa
