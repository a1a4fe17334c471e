/-
  What the document's own Mul answers.
-/
import Derived.Test.YtggbhoanffdjbaaNRow
namespace Go.Proofs.Ytggbhoanffdjbaa
open Go.RowKit

set_option maxHeartbeats 400000 in
theorem nmul_core (A B : Option Addr) (cA cB na nb n : Nat) (xs ys : List UInt64) (w : World) (hx : Rg ucells w A xs) (hy : Rg ucells w B ys)
    (lx : xs.length = n) (ly : ys.length = n) (hn : n ≤ 1000000) (hc : (n = na ∧ n ≤ nb ∧ n ≤ nb) ∨ (n = nb ∧ n < na ∧ n ≤ na)) :
    Calls Try.prog 22 #[.slice A na cA, .slice B nb cB] w (RowNew ucells (List.zipWith (· * ·) xs ys) w) := by
  obtain ⟨i0, hi, hz0, hz1, hz2⟩ := info_parts Try.info23
  have HX := Lib.hid hx; clear hx
  have HY := Lib.hid hy; clear hy
  obtain ⟨zs, hzs⟩ : ∃ zs, zs = List.zipWith (· * ·) xs ys := ⟨_, rfl⟩
  rw [← hzs]
  have lz : zs.length = n := by rw [hzs]; simp [lx, ly]
  have HZ := Lib.hid hzs; clear hzs
  have LX := Lib.hid lx; clear lx
  have LY := Lib.hid ly; clear ly
  have LZ := Lib.hid lz; clear lz
  rcases hc with ⟨h1, h2, h3⟩ | ⟨h1, h2, h3⟩
  all_goals
    subst h1
    go_enter Try.func22, Try.ntmps22
    go_wp2_with fail
    go_loopw [5, 6] (fun v i wr => ∃ k : Nat, k ≤ n ∧ i = .int .i64 k ∧ Hid (wr.ownsRow w.heap.size 23 1 v k ((zs.take k).flatMap ucells)) ∧ Hid (Below w.heap.size w wr)) (fun _ i _ => n - (intOf i).toNat)
    case atStart => exact ⟨0, Nat.zero_le _, rfl, World.ownsRow_nil _ _ _ _, Below.refl _ _⟩
    case round =>
      obtain ⟨k, hk, rfl, HOk, HBk⟩ := hrel
      by_cases hlt : k < n
      · obtain ⟨b1, o1, rfl, l1, c1⟩ := HX.out (by rw [LX.out]; omega)
        obtain ⟨b2, o2, rfl, l2, c2⟩ := HY.out (by rw [LY.out]; omega)
        obtain ⟨x, HXk⟩ := get_some hlt LX.out
        obtain ⟨y, HYk⟩ := get_some hlt LY.out
        have d1 := (HBk.out.cell (p := ⟨b1, o1 + k, none⟩) l1).trans (su_cell c1 HXk)
        have d2 := (HBk.out.cell (p := ⟨b2, o2 + k, none⟩) l2).trans (su_cell c2 HYk)
        have HZk : Hid (zs[k]? = some (x * y)) := by
          show _ = _
          rw [HZ.out, List.getElem?_zipWith, HXk, HYk]
        have hq := Nat.lt_of_lt_of_le hlt h3
        have HU := Lib.hid (uz_mul x y)
        have hs := HBk.out.size
        clear c1 c2 HXk HYk
        go_wp2_with fail
        have a1 : u5.ownBlock ≠ some b1 := fun h => absurd (HOk.out.lt _ h).1 (by omega)
        have a2 : u5.ownBlock ≠ some b2 := fun h => absurd (HOk.out.lt _ h).1 (by omega)
        have A1 := Lib.hid a1; clear a1
        have A2 := Lib.hid a2; clear a2
        have k0 : (0 : Int) ≤ (k : Int) := Int.natCast_nonneg _
        have k1 : (k : Int) < (n : Int) := by omega
        have k2 := Int.ofNat_lt.2 hq
        go_region_held3 (fun w' => w'.cell? ⟨b1, o1 + k, none⟩ = some (.int .u64 (uz x)) ∧ w'.cell? ⟨b2, o2 + k, none⟩ = some (.int .u64 (uz y)))
          (first
            | go_keep
            | (go_split_ands
               refine ⟨?_, ?_⟩
               · (rw [hgrow.cell_far _ (by simp; omega) (Ne.symm A1.out)]; assumption)
               · (rw [hgrow.cell_far _ (by simp; omega) (Ne.symm A2.out)]; assumption)))
          ((refine step_append_lies _ (by rfl) _ _ _ (by rfl) w.heap.size 23 i0 _ 1 8 Try.underlying22 hi hz0 hz1 hz2 rfl (by omega) u5 k ((zs.take k).flatMap ucells) (by rfl) ((HOk.out.alloc _).drew) ⟨wr.heap.size, 0, none⟩ 1 1 [.int .u64 (IntKind.u64.wrap (uz x * uz y))] (by rfl) (by rfl) (World.news_of_block (cs := #[.int .u64 (IntKind.u64.wrap (uz x * uz y))]) (t := 23) (fr := (0, 0)) (heap_alloc_new wr _)) (by simp [Value.oneCell']) (by omega) (by unfold maxLen; omega) (by omega) (by simp; omega) (wr.heap.size + 1) (by simp) ?_; intro gg cap w2 hown2 hgrow hat hlt2))
        have HO2 : Hid (w2.ownsRow w.heap.size 23 1 (.slice (some ⟨gg, 0, none⟩) (k + 1) cap) (k + 1) ((zs.take (k + 1)).flatMap ucells)) := by
          show World.ownsRow _ _ _ _ _ _ _
          rw [take_get HZk.out, List.flatMap_append]
          simp only [List.flatMap_cons, List.flatMap_nil, List.append_nil, ucells]
          rw [← HU.out]
          exact hown2
        have HB2 : Hid (Below w.heap.size w w2) := ((HBk.out.alloc hs _).drew).grown hgrow (by simp; omega) (fun q hqq => (HOk.out.lt _ hqq).1)
        clear hown2 hgrow hat hlt2 HOk HBk HX HY d1 d2 HZk HU A1 A2 l1 l2 hs hq k2
        go_wp2_with fail
        go_roundw
        case rel => exact ⟨k + 1, by omega, by go_num, HO2, HB2⟩
        case measure => simp [intOf]; omega
      · obtain rfl : k = n := by omega
        have hf := HOk.out
        rw [List.take_of_length_le (by rw [LZ.out]; exact Nat.le_refl _)] at hf
        obtain ⟨A', c', rfl, e1, hr, e3, e4⟩ := own_cap ucells_len (by decide) hf
        have HR := Lib.hid hr; have E3 := Lib.hid e3; have E4 := Lib.hid e4; have E5 := Lib.hid (own_new hf)
        clear hr hf e1 e3 e4
        go_wp2_with fail
        go_ret
        exact ⟨A', c', k, rfl, LZ.out.symm, HR.out, HBk.out, E3.out, E4.out, E5.out⟩
theorem nmul (A B : Option Addr) (cA cB na nb : Nat) (xs ys : List UInt64) (w : World) (hx : Rg ucells w A xs) (hy : Rg ucells w B ys) (lx : na = xs.length) (ly : nb = ys.length) (hn : na ≤ 1000000) :
    Calls Try.prog 22 #[.slice A na cA, .slice B nb cB] w (RowNew ucells (mulR xs ys) w) := by
  subst lx ly
  have := nmul_core A B cA cB xs.length ys.length (min xs.length ys.length) (xs.take (min xs.length ys.length)) (ys.take (min xs.length ys.length)) w (hx.take _) (hy.take _) (by simp) (by simp) (by omega) (by omega)
  rw [zip_takeR] at this
  exact this

end Go.Proofs.Ytggbhoanffdjbaa
