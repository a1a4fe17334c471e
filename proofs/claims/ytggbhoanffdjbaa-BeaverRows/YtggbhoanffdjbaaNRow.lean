/-
  What the document's own rows answer: Add, Sub, Mul, Scale.
-/
import Derived.Test.YtggbhoanffdjbaaSSame
import Derived.Test.YtggbhoanffdjbaaSFill
import Derived.Deep.RegionHeld3
import Derived.Deep.AppendLies
namespace Go.Proofs.Ytggbhoanffdjbaa
open Go.RowKit

def addR (a b : List UInt64) : List UInt64 := List.zipWith (· + ·) a b
def subR (a b : List UInt64) : List UInt64 := List.zipWith (· - ·) a b
def mulR (a b : List UInt64) : List UInt64 := List.zipWith (· * ·) a b
def sclR (k : UInt64) (a : List UInt64) : List UInt64 := a.map fun u => k * u
theorem Rg.take {α : Type} {f : α → List Value} {w : World} {A : Option Addr} {xs : List α} (h : Rg f w A xs) (k : Nat) : Rg f w A (xs.take k) := fun h0 => by
  obtain ⟨b, off, e, hlt, hc⟩ := h (by have : (xs.take k).length ≤ xs.length := by simp; omega
                                       omega)
  refine ⟨b, off, e, hlt, fun j u hj => hc j u ?_⟩
  have q : xs.flatMap f = (xs.take k).flatMap f ++ (xs.drop k).flatMap f := by rw [← List.flatMap_append, List.take_append_drop]
  rw [q, List.getElem?_append_left (List.getElem?_eq_some_iff.1 hj).1]
  exact hj
theorem zip_takeR {g : UInt64 → UInt64 → UInt64} (xs ys : List UInt64) : List.zipWith g (xs.take (min xs.length ys.length)) (ys.take (min xs.length ys.length)) = List.zipWith g xs ys := by
  apply List.ext_getElem
  · simp
  · intro i h1 h2
    simp
theorem get_some {α : Type} {xs : List α} {k n : Nat} (h : k < n) (hn : xs.length = n) : ∃ x, xs[k]? = some x := ⟨_, List.getElem?_eq_getElem (by omega)⟩

set_option maxHeartbeats 400000 in
theorem nadd_core (A B : Option Addr) (cA cB na nb n : Nat) (xs ys : List UInt64) (w : World) (hx : Rg ucells w A xs) (hy : Rg ucells w B ys)
    (lx : xs.length = n) (ly : ys.length = n) (hn : n ≤ 1000000) (hc : (n = na ∧ n ≤ nb ∧ n ≤ nb) ∨ (n = nb ∧ n < na ∧ n ≤ na)) :
    Calls Try.prog 18 #[.slice A na cA, .slice B nb cB] w (RowNew ucells (List.zipWith (· + ·) xs ys) w) := by
  obtain ⟨i0, hi, hz0, hz1, hz2⟩ := info_parts Try.info23
  have HX := Lib.hid hx; clear hx
  have HY := Lib.hid hy; clear hy
  obtain ⟨zs, hzs⟩ : ∃ zs, zs = List.zipWith (· + ·) xs ys := ⟨_, rfl⟩
  rw [← hzs]
  have lz : zs.length = n := by rw [hzs]; simp [lx, ly]
  have HZ := Lib.hid hzs; clear hzs
  have LX := Lib.hid lx; clear lx
  have LY := Lib.hid ly; clear ly
  have LZ := Lib.hid lz; clear lz
  rcases hc with ⟨h1, h2, h3⟩ | ⟨h1, h2, h3⟩
  all_goals
    subst h1
    go_enter Try.func18, Try.ntmps18
    go_wp2_with fail
    go_loopw [5, 6] (fun v i wr => ∃ k : Nat, k ≤ n ∧ i = .int .i64 k ∧ Hid (wr.ownsRow w.heap.size 23 1 v k ((zs.take k).flatMap ucells)) ∧ Hid (Below w.heap.size w wr)) (fun _ i _ => n - (intOf i).toNat)
    case atStart => exact ⟨0, Nat.zero_le _, rfl, World.ownsRow_nil _ _ _ _, Below.refl _ _⟩
    case round =>
      obtain ⟨k, hk, rfl, HOk, HBk⟩ := hrel
      by_cases hlt : k < n
      · obtain ⟨b1, o1, rfl, l1, c1⟩ := HX.out (by rw [LX.out]; omega)
        obtain ⟨b2, o2, rfl, l2, c2⟩ := HY.out (by rw [LY.out]; omega)
        obtain ⟨x, HXk⟩ := get_some hlt LX.out
        obtain ⟨y, HYk⟩ := get_some hlt LY.out
        have d1 := (HBk.out.cell (p := ⟨b1, o1 + k, none⟩) l1).trans (su_cell c1 HXk)
        have d2 := (HBk.out.cell (p := ⟨b2, o2 + k, none⟩) l2).trans (su_cell c2 HYk)
        have HZk : Hid (zs[k]? = some (x + y)) := by
          show _ = _
          rw [HZ.out, List.getElem?_zipWith, HXk, HYk]
        have hq := Nat.lt_of_lt_of_le hlt h3
        have HU := Lib.hid (uz_add x y)
        have hs := HBk.out.size
        clear c1 c2 HXk HYk
        go_wp2_with fail
        have a1 : u5.ownBlock ≠ some b1 := fun h => absurd (HOk.out.lt _ h).1 (by omega)
        have a2 : u5.ownBlock ≠ some b2 := fun h => absurd (HOk.out.lt _ h).1 (by omega)
        have A1 := Lib.hid a1; clear a1
        have A2 := Lib.hid a2; clear a2
        have k0 : (0 : Int) ≤ (k : Int) := Int.natCast_nonneg _
        have k1 : (k : Int) < (n : Int) := by omega
        have k2 := Int.ofNat_lt.2 hq
        go_region_held3 (fun w' => w'.cell? ⟨b1, o1 + k, none⟩ = some (.int .u64 (uz x)) ∧ w'.cell? ⟨b2, o2 + k, none⟩ = some (.int .u64 (uz y)))
          (first
            | go_keep
            | (go_split_ands
               refine ⟨?_, ?_⟩
               · (rw [hgrow.cell_far _ (by simp; omega) (Ne.symm A1.out)]; assumption)
               · (rw [hgrow.cell_far _ (by simp; omega) (Ne.symm A2.out)]; assumption)))
          ((refine step_append_lies _ (by rfl) _ _ _ (by rfl) w.heap.size 23 i0 _ 1 8 Try.underlying22 hi hz0 hz1 hz2 rfl (by omega) u5 k ((zs.take k).flatMap ucells) (by rfl) ((HOk.out.alloc _).drew) ⟨wr.heap.size, 0, none⟩ 1 1 [.int .u64 (IntKind.u64.wrap (uz x + uz y))] (by rfl) (by rfl) (World.news_of_block (cs := #[.int .u64 (IntKind.u64.wrap (uz x + uz y))]) (t := 23) (fr := (0, 0)) (heap_alloc_new wr _)) (by simp [Value.oneCell']) (by omega) (by unfold maxLen; omega) (by omega) (by simp; omega) (wr.heap.size + 1) (by simp) ?_; intro gg cap w2 hown2 hgrow hat hlt2))
        have HO2 : Hid (w2.ownsRow w.heap.size 23 1 (.slice (some ⟨gg, 0, none⟩) (k + 1) cap) (k + 1) ((zs.take (k + 1)).flatMap ucells)) := by
          show World.ownsRow _ _ _ _ _ _ _
          rw [take_get HZk.out, List.flatMap_append]
          simp only [List.flatMap_cons, List.flatMap_nil, List.append_nil, ucells]
          rw [← HU.out]
          exact hown2
        have HB2 : Hid (Below w.heap.size w w2) := ((HBk.out.alloc hs _).drew).grown hgrow (by simp; omega) (fun q hqq => (HOk.out.lt _ hqq).1)
        clear hown2 hgrow hat hlt2 HOk HBk HX HY d1 d2 HZk HU A1 A2 l1 l2 hs hq k2
        go_wp2_with fail
        go_roundw
        case rel => exact ⟨k + 1, by omega, by go_num, HO2, HB2⟩
        case measure => simp [intOf]; omega
      · obtain rfl : k = n := by omega
        have hf := HOk.out
        rw [List.take_of_length_le (by rw [LZ.out]; exact Nat.le_refl _)] at hf
        obtain ⟨A', c', rfl, e1, hr, e3, e4⟩ := own_cap ucells_len (by decide) hf
        have HR := Lib.hid hr; have E3 := Lib.hid e3; have E4 := Lib.hid e4; have E5 := Lib.hid (own_new hf)
        clear hr hf e1 e3 e4
        go_wp2_with fail
        go_ret
        exact ⟨A', c', k, rfl, LZ.out.symm, HR.out, HBk.out, E3.out, E4.out, E5.out⟩
theorem nadd (A B : Option Addr) (cA cB na nb : Nat) (xs ys : List UInt64) (w : World) (hx : Rg ucells w A xs) (hy : Rg ucells w B ys) (lx : na = xs.length) (ly : nb = ys.length) (hn : na ≤ 1000000) :
    Calls Try.prog 18 #[.slice A na cA, .slice B nb cB] w (RowNew ucells (addR xs ys) w) := by
  subst lx ly
  have := nadd_core A B cA cB xs.length ys.length (min xs.length ys.length) (xs.take (min xs.length ys.length)) (ys.take (min xs.length ys.length)) w (hx.take _) (hy.take _) (by simp) (by simp) (by omega) (by omega)
  rw [zip_takeR] at this
  exact this

set_option maxHeartbeats 400000 in
theorem nsub_core (A B : Option Addr) (cA cB na nb n : Nat) (xs ys : List UInt64) (w : World) (hx : Rg ucells w A xs) (hy : Rg ucells w B ys)
    (lx : xs.length = n) (ly : ys.length = n) (hn : n ≤ 1000000) (hc : (n = na ∧ n ≤ nb ∧ n ≤ nb) ∨ (n = nb ∧ n < na ∧ n ≤ na)) :
    Calls Try.prog 20 #[.slice A na cA, .slice B nb cB] w (RowNew ucells (List.zipWith (· - ·) xs ys) w) := by
  obtain ⟨i0, hi, hz0, hz1, hz2⟩ := info_parts Try.info23
  have HX := Lib.hid hx; clear hx
  have HY := Lib.hid hy; clear hy
  obtain ⟨zs, hzs⟩ : ∃ zs, zs = List.zipWith (· - ·) xs ys := ⟨_, rfl⟩
  rw [← hzs]
  have lz : zs.length = n := by rw [hzs]; simp [lx, ly]
  have HZ := Lib.hid hzs; clear hzs
  have LX := Lib.hid lx; clear lx
  have LY := Lib.hid ly; clear ly
  have LZ := Lib.hid lz; clear lz
  rcases hc with ⟨h1, h2, h3⟩ | ⟨h1, h2, h3⟩
  all_goals
    subst h1
    go_enter Try.func20, Try.ntmps20
    go_wp2_with fail
    go_loopw [5, 6] (fun v i wr => ∃ k : Nat, k ≤ n ∧ i = .int .i64 k ∧ Hid (wr.ownsRow w.heap.size 23 1 v k ((zs.take k).flatMap ucells)) ∧ Hid (Below w.heap.size w wr)) (fun _ i _ => n - (intOf i).toNat)
    case atStart => exact ⟨0, Nat.zero_le _, rfl, World.ownsRow_nil _ _ _ _, Below.refl _ _⟩
    case round =>
      obtain ⟨k, hk, rfl, HOk, HBk⟩ := hrel
      by_cases hlt : k < n
      · obtain ⟨b1, o1, rfl, l1, c1⟩ := HX.out (by rw [LX.out]; omega)
        obtain ⟨b2, o2, rfl, l2, c2⟩ := HY.out (by rw [LY.out]; omega)
        obtain ⟨x, HXk⟩ := get_some hlt LX.out
        obtain ⟨y, HYk⟩ := get_some hlt LY.out
        have d1 := (HBk.out.cell (p := ⟨b1, o1 + k, none⟩) l1).trans (su_cell c1 HXk)
        have d2 := (HBk.out.cell (p := ⟨b2, o2 + k, none⟩) l2).trans (su_cell c2 HYk)
        have HZk : Hid (zs[k]? = some (x - y)) := by
          show _ = _
          rw [HZ.out, List.getElem?_zipWith, HXk, HYk]
        have hq := Nat.lt_of_lt_of_le hlt h3
        have HU := Lib.hid (uz_sub x y)
        have hs := HBk.out.size
        clear c1 c2 HXk HYk
        go_wp2_with fail
        have a1 : u5.ownBlock ≠ some b1 := fun h => absurd (HOk.out.lt _ h).1 (by omega)
        have a2 : u5.ownBlock ≠ some b2 := fun h => absurd (HOk.out.lt _ h).1 (by omega)
        have A1 := Lib.hid a1; clear a1
        have A2 := Lib.hid a2; clear a2
        have k0 : (0 : Int) ≤ (k : Int) := Int.natCast_nonneg _
        have k1 : (k : Int) < (n : Int) := by omega
        have k2 := Int.ofNat_lt.2 hq
        go_region_held3 (fun w' => w'.cell? ⟨b1, o1 + k, none⟩ = some (.int .u64 (uz x)) ∧ w'.cell? ⟨b2, o2 + k, none⟩ = some (.int .u64 (uz y)))
          (first
            | go_keep
            | (go_split_ands
               refine ⟨?_, ?_⟩
               · (rw [hgrow.cell_far _ (by simp; omega) (Ne.symm A1.out)]; assumption)
               · (rw [hgrow.cell_far _ (by simp; omega) (Ne.symm A2.out)]; assumption)))
          ((refine step_append_lies _ (by rfl) _ _ _ (by rfl) w.heap.size 23 i0 _ 1 8 Try.underlying22 hi hz0 hz1 hz2 rfl (by omega) u5 k ((zs.take k).flatMap ucells) (by rfl) ((HOk.out.alloc _).drew) ⟨wr.heap.size, 0, none⟩ 1 1 [.int .u64 (IntKind.u64.wrap (uz x - uz y))] (by rfl) (by rfl) (World.news_of_block (cs := #[.int .u64 (IntKind.u64.wrap (uz x - uz y))]) (t := 23) (fr := (0, 0)) (heap_alloc_new wr _)) (by simp [Value.oneCell']) (by omega) (by unfold maxLen; omega) (by omega) (by simp; omega) (wr.heap.size + 1) (by simp) ?_; intro gg cap w2 hown2 hgrow hat hlt2))
        have HO2 : Hid (w2.ownsRow w.heap.size 23 1 (.slice (some ⟨gg, 0, none⟩) (k + 1) cap) (k + 1) ((zs.take (k + 1)).flatMap ucells)) := by
          show World.ownsRow _ _ _ _ _ _ _
          rw [take_get HZk.out, List.flatMap_append]
          simp only [List.flatMap_cons, List.flatMap_nil, List.append_nil, ucells]
          rw [← HU.out]
          exact hown2
        have HB2 : Hid (Below w.heap.size w w2) := ((HBk.out.alloc hs _).drew).grown hgrow (by simp; omega) (fun q hqq => (HOk.out.lt _ hqq).1)
        clear hown2 hgrow hat hlt2 HOk HBk HX HY d1 d2 HZk HU A1 A2 l1 l2 hs hq k2
        go_wp2_with fail
        go_roundw
        case rel => exact ⟨k + 1, by omega, by go_num, HO2, HB2⟩
        case measure => simp [intOf]; omega
      · obtain rfl : k = n := by omega
        have hf := HOk.out
        rw [List.take_of_length_le (by rw [LZ.out]; exact Nat.le_refl _)] at hf
        obtain ⟨A', c', rfl, e1, hr, e3, e4⟩ := own_cap ucells_len (by decide) hf
        have HR := Lib.hid hr; have E3 := Lib.hid e3; have E4 := Lib.hid e4; have E5 := Lib.hid (own_new hf)
        clear hr hf e1 e3 e4
        go_wp2_with fail
        go_ret
        exact ⟨A', c', k, rfl, LZ.out.symm, HR.out, HBk.out, E3.out, E4.out, E5.out⟩
theorem nsub (A B : Option Addr) (cA cB na nb : Nat) (xs ys : List UInt64) (w : World) (hx : Rg ucells w A xs) (hy : Rg ucells w B ys) (lx : na = xs.length) (ly : nb = ys.length) (hn : na ≤ 1000000) :
    Calls Try.prog 20 #[.slice A na cA, .slice B nb cB] w (RowNew ucells (subR xs ys) w) := by
  subst lx ly
  have := nsub_core A B cA cB xs.length ys.length (min xs.length ys.length) (xs.take (min xs.length ys.length)) (ys.take (min xs.length ys.length)) w (hx.take _) (hy.take _) (by simp) (by simp) (by omega) (by omega)
  rw [zip_takeR] at this
  exact this

set_option maxHeartbeats 400000 in
theorem nscale (m : UInt64) (A : Option Addr) (cA n : Nat) (xs : List UInt64) (w : World) (hx : Rg ucells w A xs) (lx : n = xs.length) (hn : n ≤ 1000000) :
    Calls Try.prog 24 #[.int .u64 (uz m), .slice A n cA] w (RowNew ucells (sclR m xs) w) := by
  obtain ⟨i0, hi, hz0, hz1, hz2⟩ := info_parts Try.info23
  have HX := Lib.hid hx; clear hx
  obtain ⟨zs, hzs⟩ : ∃ zs, zs = sclR m xs := ⟨_, rfl⟩
  rw [← hzs]
  have lz : n = zs.length := by rw [hzs]; unfold sclR; simp [← lx]
  have HZ := Lib.hid hzs; clear hzs
  have LX := Lib.hid lx; clear lx
  have LZ := Lib.hid lz; clear lz
  go_enter Try.func24, Try.ntmps24
  go_wp2_with fail
  go_loopw [5, 6] (fun v i wr => ∃ k : Nat, k ≤ n ∧ i = .int .i64 k ∧ Hid (wr.ownsRow w.heap.size 23 1 v k ((zs.take k).flatMap ucells)) ∧ Hid (Below w.heap.size w wr)) (fun _ i _ => n - (intOf i).toNat)
  case atStart => exact ⟨0, Nat.zero_le _, rfl, World.ownsRow_nil _ _ _ _, Below.refl _ _⟩
  case round =>
    obtain ⟨k, hk, rfl, HOk, HBk⟩ := hrel
    by_cases hlt : k < n
    · obtain ⟨b1, o1, rfl, l1, c1⟩ := HX.out (by rw [← LX.out]; omega)
      obtain ⟨x, HXk⟩ := get_some hlt LX.out.symm
      have d1 := (HBk.out.cell (p := ⟨b1, o1 + k, none⟩) l1).trans (su_cell c1 HXk)
      have HZk : Hid (zs[k]? = some (m * x)) := by
        show _ = _
        rw [HZ.out]; unfold sclR; rw [List.getElem?_map, HXk]; rfl
      have HU := Lib.hid (uz_mul m x)
      have hs := HBk.out.size
      clear c1 HXk
      go_wp2_with (at_builtin; refine wpList_append_own _ rfl _ _ 22 rfl w.heap.size 23 i0 (.int .u64 0) 1 8 Try.underlying22 hi hz0 hz1 hz2 rfl (by decide) _ _ _ rfl (HOk.out.alloc _) ⟨wr.heap.size, 0, none⟩ 1 1 [.int .u64 (IntKind.u64.wrap (uz m * uz x))] rfl rfl ?c1 ?c2 ?c3 ?c4 ?c5 ?_)
      case c1 =>
        intro j u hj
        match j, hj with
        | 0, hj => simp at hj; subst hj; simp [Addr.add]
      case c2 => intro u hu; simp at hu; subst hu; rfl
      case c3 => unfold maxLen; omega
      case c4 => omega
      case c5 => simp; omega
      intro v' w2 hown2 hgrow _
      have HO2 : Hid (w2.ownsRow w.heap.size 23 1 v' (k + 1) ((zs.take (k + 1)).flatMap ucells)) := by
        show World.ownsRow _ _ _ _ _ _ _
        rw [take_get HZk.out, List.flatMap_append]
        simp only [List.flatMap_cons, List.flatMap_nil, List.append_nil, ucells]
        rw [← HU.out]
        exact hown2
      have HB2 : Hid (Below w.heap.size w w2) := (HBk.out.alloc hs _).grown hgrow (by simp; omega) (fun q hqq => (HOk.out.lt _ hqq).1)
      clear hown2 hgrow HOk HBk HX d1 HZk HU l1 hs
      go_wp2_with fail
      go_roundw
      case rel => exact ⟨k + 1, by omega, by go_num, HO2, HB2⟩
      case measure => simp [intOf]; omega
    · obtain rfl : k = n := by omega
      have hf := HOk.out
      rw [List.take_of_length_le (by rw [LZ.out]; exact Nat.le_refl _)] at hf
      obtain ⟨A', c', rfl, e1, hr, e3, e4⟩ := own_cap ucells_len (by decide) hf
      have HR := Lib.hid hr; have E3 := Lib.hid e3; have E4 := Lib.hid e4; have E5 := Lib.hid (own_new hf)
      clear hr hf e1 e3 e4
      go_wp2_with fail
      go_ret
      exact ⟨A', c', k, rfl, LZ.out, HR.out, HBk.out, E3.out, E4.out, E5.out⟩

end Go.Proofs.Ytggbhoanffdjbaa
