/-
  What the document's own rows answer: Same of rows alike, Add, Mul and Scale. The fixed questions of layer 7; what is too much. The fixed questions of layer 7, answered. What a layer makes, of sums, of numbers many times, of noughts; whether it fits hangs on lengths alone.
-/
import Derived.Test.YtbcmhoomdackkaaPPub
import Derived.Deep.RegionHeld3
import Derived.Deep.AppendLies
import Derived.Test.YtbcmhoomdackkaaHead
namespace Go.Proofs.Ytbcmhoomdackkaa
open Go.RowKit

set_option maxHeartbeats 400000 in
theorem same_core (A B : Option Addr) (cA cB n : Nat) (us : List UInt64) (w : World) (hx : Rg ucells w A us) (hy : Rg ucells w B us) (lx : n = us.length) (hn : n ≤ 1000000) :
    Calls Try.prog 30 #[.slice A n cA, .slice B n cB] w fun e w' => e = .returned (.bool true) ∧ Below w.heap.size w w' := by
  have HX := Lib.hid hx; clear hx
  have HY := Lib.hid hy; clear hy
  have LX := Lib.hid lx; clear lx
  have hne : ((n : Int) != (n : Int)) = false := by simp
  go_enter Try.func30, Try.ntmps30
  go_wp2_with fail
  go_loopw [5] (fun i wr => ∃ k : Nat, k ≤ n ∧ i = .int .i64 k ∧ Hid (Below w.heap.size w wr)) (fun i _ => n - (intOf i).toNat)
  case atStart => exact ⟨0, Nat.zero_le _, rfl, Below.refl _ _⟩
  case round =>
    obtain ⟨k, hk, rfl, HB⟩ := hrel
    by_cases hlt : k < n
    · obtain ⟨b1, o1, rfl, l1, c1⟩ := HX.out (by rw [← LX.out]; omega)
      obtain ⟨b2, o2, rfl, l2, c2⟩ := HY.out (by rw [← LX.out]; omega)
      have hkl : k < us.length := by rw [← LX.out]; exact hlt
      have d1 := (HB.out.cell (p := ⟨b1, o1 + k, none⟩) l1).trans (u_cell c1 hkl)
      have d2 := (HB.out.cell (p := ⟨b2, o2 + k, none⟩) l2).trans (u_cell c2 hkl)
      obtain ⟨x, hxe⟩ : ∃ x : UInt64, x = ug us (k : Nat) := ⟨_, rfl⟩
      rw [← hxe] at d1 d2
      clear c1 c2 hxe hkl
      have hxx : (uz x != uz x) = false := by simp
      go_wp2_with fail
      go_quiet (fail)
      go_wp2_with fail
      go_roundw
      case rel => exact ⟨k + 1, by omega, by go_num, below_drewN HB.out _⟩
      case measure => simp [intOf]; omega
    · go_wp2
      go_ret
      exact ⟨rfl, HB.out⟩
theorem usame (A B : Option Addr) (cA cB na nb : Nat) (xs ys : List UInt64) (w : World) (hx : Rg ucells w A xs) (hy : Rg ucells w B ys) (lx : na = xs.length) (ly : nb = ys.length) (hn : na ≤ 1000000) (he : xs = ys) :
    Calls Try.prog 30 #[.slice A na cA, .slice B nb cB] w fun e w' => e = .returned (.bool true) ∧ Below w.heap.size w w' := by
  subst he
  obtain rfl : nb = na := by rw [lx, ly]
  exact same_core A B cA cB nb xs w hx hy lx hn

set_option maxHeartbeats 400000 in
theorem uadd (A B : Option Addr) (cA cB n : Nat) (xs ys : List UInt64) (w : World) (hx : Rg ucells w A xs) (hy : Rg ucells w B ys) (lx : n = xs.length) (ly : n = ys.length) (hn : n ≤ 1000000) :
    Calls Try.prog 31 #[.slice A n cA, .slice B n cB] w (RowTo ucells (addU xs ys) w) := by
  obtain ⟨i0, hi, hz0, hz1, hz2⟩ := info_parts Try.info51
  have HX := Lib.hid hx; clear hx
  have HY := Lib.hid hy; clear hy
  obtain ⟨zs, hzs⟩ : ∃ zs, zs = addU xs ys := ⟨_, rfl⟩
  rw [← hzs]
  have lz : n = zs.length := by rw [hzs]; unfold addU; simp [← lx, ← ly]
  have HZ := Lib.hid hzs; clear hzs
  have LX := Lib.hid lx; clear lx
  have LY := Lib.hid ly; clear ly
  have LZ := Lib.hid lz; clear lz
  go_enter Try.func31, Try.ntmps31
  go_wp2_with fail
  go_loopw [5, 6] (fun v i wr => ∃ k : Nat, k ≤ n ∧ i = .int .i64 k ∧ Hid (wr.ownsRow w.heap.size 51 1 v k ((zs.take k).flatMap ucells)) ∧ Hid (Below w.heap.size w wr)) (fun _ i _ => n - (intOf i).toNat)
  case atStart => exact ⟨0, Nat.zero_le _, rfl, World.ownsRow_nil _ _ _ _, Below.refl _ _⟩
  case round =>
    obtain ⟨k, hk, rfl, HOk, HBk⟩ := hrel
    by_cases hlt : k < n
    · obtain ⟨b1, o1, rfl, l1, c1⟩ := HX.out (by rw [← LX.out]; omega)
      obtain ⟨b2, o2, rfl, l2, c2⟩ := HY.out (by rw [← LY.out]; omega)
      have kx : k < xs.length := by rw [← LX.out]; exact hlt
      have ky : k < ys.length := by rw [← LY.out]; exact hlt
      have d1 := (HBk.out.cell (p := ⟨b1, o1 + k, none⟩) l1).trans (u_cell c1 kx)
      have d2 := (HBk.out.cell (p := ⟨b2, o2 + k, none⟩) l2).trans (u_cell c2 ky)
      obtain ⟨x, HXk⟩ : ∃ x : UInt64, x = ug xs (k : Nat) := ⟨_, rfl⟩
      obtain ⟨y, HYk⟩ : ∃ y : UInt64, y = ug ys (k : Nat) := ⟨_, rfl⟩
      rw [← HXk] at d1
      rw [← HYk] at d2
      have HZk : Hid (zs[k]? = some (x + y)) := by
        show _ = _
        rw [HZ.out, HXk, HYk]; unfold addU; rw [List.getElem?_zipWith, ug_get kx, ug_get ky]
      have HU := Lib.hid (uz_add x y)
      have hs := HBk.out.size
      clear c1 c2 kx ky HXk HYk
      go_wp2_with fail
      have a1 : u5.ownBlock ≠ some b1 := fun h => absurd (HOk.out.lt _ h).1 (by omega)
      have a2 : u5.ownBlock ≠ some b2 := fun h => absurd (HOk.out.lt _ h).1 (by omega)
      have A1 := Lib.hid a1; clear a1
      have A2 := Lib.hid a2; clear a2
      have k0 : (0 : Int) ≤ (k : Int) := Int.natCast_nonneg _
      have k1 : (k : Int) < (n : Int) := by omega
      go_region_held3 (fun w' => w'.cell? ⟨b1, o1 + k, none⟩ = some (.int .u64 (uz x)) ∧ w'.cell? ⟨b2, o2 + k, none⟩ = some (.int .u64 (uz y)))
        (first
          | go_keep
          | (go_split_ands
             refine ⟨?_, ?_⟩
             · (rw [hgrow.cell_far _ (by simp; omega) (Ne.symm A1.out)]; assumption)
             · (rw [hgrow.cell_far _ (by simp; omega) (Ne.symm A2.out)]; assumption)))
        ((refine step_append_lies _ (by rfl) _ _ _ (by rfl) w.heap.size 51 i0 _ 1 8 Try.underlying44 hi hz0 hz1 hz2 rfl (by omega) u5 k ((zs.take k).flatMap ucells) (by rfl) ((HOk.out.alloc _).drew) ⟨wr.heap.size, 0, none⟩ 1 1 [.int .u64 (IntKind.u64.wrap (uz x + uz y))] (by rfl) (by rfl) (World.news_of_block (cs := #[.int .u64 (IntKind.u64.wrap (uz x + uz y))]) (t := 51) (fr := (0, 0)) (heap_alloc_new wr _)) (by simp [Value.oneCell']) (by omega) (by unfold maxLen; omega) (by omega) (by simp; omega) (wr.heap.size + 1) (by simp) ?_; intro gg cap w2 hown2 hgrow hat hlt2))
      have HO2 : Hid (w2.ownsRow w.heap.size 51 1 (.slice (some ⟨gg, 0, none⟩) (k + 1) cap) (k + 1) ((zs.take (k + 1)).flatMap ucells)) := by
        show World.ownsRow _ _ _ _ _ _ _
        rw [take_next HZk.out, List.flatMap_append]
        simp only [List.flatMap_cons, List.flatMap_nil, List.append_nil, ucells]
        rw [← HU.out]
        exact hown2
      have HB2 : Hid (Below w.heap.size w w2) := ((HBk.out.alloc hs _).drew).grown hgrow (by simp; omega) (fun q hqq => (HOk.out.lt _ hqq).1)
      clear hown2 hgrow hat hlt2 HOk HBk HX HY d1 d2 HZk HU A1 A2 l1 l2 hs
      go_wp2_with fail
      go_roundw
      case rel => exact ⟨k + 1, by omega, by go_num, HO2, HB2⟩
      case measure => simp [intOf]; omega
    · obtain rfl : k = n := by omega
      have hf := HOk.out
      rw [List.take_of_length_le (by rw [LZ.out]; exact Nat.le_refl _)] at hf
      obtain ⟨A', c', rfl, e1, hr, e3, e4⟩ := own_cap ucells_len (by decide) hf
      have HR := Lib.hid hr; have E3 := Lib.hid e3; have E4 := Lib.hid e4
      clear hr hf e1 e3 e4
      go_wp2_with fail
      go_ret
      exact ⟨A', c', k, rfl, LZ.out, HR.out, HBk.out, E3.out, E4.out⟩

set_option maxHeartbeats 400000 in
theorem umul (A B : Option Addr) (cA cB n : Nat) (xs ys : List UInt64) (w : World) (hx : Rg ucells w A xs) (hy : Rg ucells w B ys) (lx : n = xs.length) (ly : n = ys.length) (hn : n ≤ 1000000) :
    Calls Try.prog 33 #[.slice A n cA, .slice B n cB] w (RowTo ucells (mulU xs ys) w) := by
  obtain ⟨i0, hi, hz0, hz1, hz2⟩ := info_parts Try.info51
  have HX := Lib.hid hx; clear hx
  have HY := Lib.hid hy; clear hy
  obtain ⟨zs, hzs⟩ : ∃ zs, zs = mulU xs ys := ⟨_, rfl⟩
  rw [← hzs]
  have lz : n = zs.length := by rw [hzs]; unfold mulU; simp [← lx, ← ly]
  have HZ := Lib.hid hzs; clear hzs
  have LX := Lib.hid lx; clear lx
  have LY := Lib.hid ly; clear ly
  have LZ := Lib.hid lz; clear lz
  go_enter Try.func33, Try.ntmps33
  go_wp2_with fail
  go_loopw [5, 6] (fun v i wr => ∃ k : Nat, k ≤ n ∧ i = .int .i64 k ∧ Hid (wr.ownsRow w.heap.size 51 1 v k ((zs.take k).flatMap ucells)) ∧ Hid (Below w.heap.size w wr)) (fun _ i _ => n - (intOf i).toNat)
  case atStart => exact ⟨0, Nat.zero_le _, rfl, World.ownsRow_nil _ _ _ _, Below.refl _ _⟩
  case round =>
    obtain ⟨k, hk, rfl, HOk, HBk⟩ := hrel
    by_cases hlt : k < n
    · obtain ⟨b1, o1, rfl, l1, c1⟩ := HX.out (by rw [← LX.out]; omega)
      obtain ⟨b2, o2, rfl, l2, c2⟩ := HY.out (by rw [← LY.out]; omega)
      have kx : k < xs.length := by rw [← LX.out]; exact hlt
      have ky : k < ys.length := by rw [← LY.out]; exact hlt
      have d1 := (HBk.out.cell (p := ⟨b1, o1 + k, none⟩) l1).trans (u_cell c1 kx)
      have d2 := (HBk.out.cell (p := ⟨b2, o2 + k, none⟩) l2).trans (u_cell c2 ky)
      obtain ⟨x, HXk⟩ : ∃ x : UInt64, x = ug xs (k : Nat) := ⟨_, rfl⟩
      obtain ⟨y, HYk⟩ : ∃ y : UInt64, y = ug ys (k : Nat) := ⟨_, rfl⟩
      rw [← HXk] at d1
      rw [← HYk] at d2
      have HZk : Hid (zs[k]? = some (x * y)) := by
        show _ = _
        rw [HZ.out, HXk, HYk]; unfold mulU; rw [List.getElem?_zipWith, ug_get kx, ug_get ky]
      have HU := Lib.hid (uz_mul x y)
      have hs := HBk.out.size
      clear c1 c2 kx ky HXk HYk
      go_wp2_with fail
      have a1 : u5.ownBlock ≠ some b1 := fun h => absurd (HOk.out.lt _ h).1 (by omega)
      have a2 : u5.ownBlock ≠ some b2 := fun h => absurd (HOk.out.lt _ h).1 (by omega)
      have A1 := Lib.hid a1; clear a1
      have A2 := Lib.hid a2; clear a2
      have k0 : (0 : Int) ≤ (k : Int) := Int.natCast_nonneg _
      have k1 : (k : Int) < (n : Int) := by omega
      go_region_held3 (fun w' => w'.cell? ⟨b1, o1 + k, none⟩ = some (.int .u64 (uz x)) ∧ w'.cell? ⟨b2, o2 + k, none⟩ = some (.int .u64 (uz y)))
        (first
          | go_keep
          | (go_split_ands
             refine ⟨?_, ?_⟩
             · (rw [hgrow.cell_far _ (by simp; omega) (Ne.symm A1.out)]; assumption)
             · (rw [hgrow.cell_far _ (by simp; omega) (Ne.symm A2.out)]; assumption)))
        ((refine step_append_lies _ (by rfl) _ _ _ (by rfl) w.heap.size 51 i0 _ 1 8 Try.underlying44 hi hz0 hz1 hz2 rfl (by omega) u5 k ((zs.take k).flatMap ucells) (by rfl) ((HOk.out.alloc _).drew) ⟨wr.heap.size, 0, none⟩ 1 1 [.int .u64 (IntKind.u64.wrap (uz x * uz y))] (by rfl) (by rfl) (World.news_of_block (cs := #[.int .u64 (IntKind.u64.wrap (uz x * uz y))]) (t := 51) (fr := (0, 0)) (heap_alloc_new wr _)) (by simp [Value.oneCell']) (by omega) (by unfold maxLen; omega) (by omega) (by simp; omega) (wr.heap.size + 1) (by simp) ?_; intro gg cap w2 hown2 hgrow hat hlt2))
      have HO2 : Hid (w2.ownsRow w.heap.size 51 1 (.slice (some ⟨gg, 0, none⟩) (k + 1) cap) (k + 1) ((zs.take (k + 1)).flatMap ucells)) := by
        show World.ownsRow _ _ _ _ _ _ _
        rw [take_next HZk.out, List.flatMap_append]
        simp only [List.flatMap_cons, List.flatMap_nil, List.append_nil, ucells]
        rw [← HU.out]
        exact hown2
      have HB2 : Hid (Below w.heap.size w w2) := ((HBk.out.alloc hs _).drew).grown hgrow (by simp; omega) (fun q hqq => (HOk.out.lt _ hqq).1)
      clear hown2 hgrow hat hlt2 HOk HBk HX HY d1 d2 HZk HU A1 A2 l1 l2 hs
      go_wp2_with fail
      go_roundw
      case rel => exact ⟨k + 1, by omega, by go_num, HO2, HB2⟩
      case measure => simp [intOf]; omega
    · obtain rfl : k = n := by omega
      have hf := HOk.out
      rw [List.take_of_length_le (by rw [LZ.out]; exact Nat.le_refl _)] at hf
      obtain ⟨A', c', rfl, e1, hr, e3, e4⟩ := own_cap ucells_len (by decide) hf
      have HR := Lib.hid hr; have E3 := Lib.hid e3; have E4 := Lib.hid e4
      clear hr hf e1 e3 e4
      go_wp2_with fail
      go_ret
      exact ⟨A', c', k, rfl, LZ.out, HR.out, HBk.out, E3.out, E4.out⟩

set_option maxHeartbeats 400000 in
theorem uscale (m : UInt64) (A : Option Addr) (cA n : Nat) (xs : List UInt64) (w : World) (hx : Rg ucells w A xs) (lx : n = xs.length) (hn : n ≤ 1000000) :
    Calls Try.prog 32 #[.int .u64 (uz m), .slice A n cA] w (RowTo ucells (scaleU m xs) w) := by
  obtain ⟨i0, hi, hz0, hz1, hz2⟩ := info_parts Try.info51
  have HX := Lib.hid hx; clear hx
  obtain ⟨zs, hzs⟩ : ∃ zs, zs = scaleU m xs := ⟨_, rfl⟩
  rw [← hzs]
  have lz : n = zs.length := by rw [hzs, scaleU_len]; exact lx
  have HZ := Lib.hid hzs; clear hzs
  have LX := Lib.hid lx; clear lx
  have LZ := Lib.hid lz; clear lz
  go_enter Try.func32, Try.ntmps32
  go_wp2_with fail
  go_loopw [5, 6] (fun v i wr => ∃ k : Nat, k ≤ n ∧ i = .int .i64 k ∧ Hid (wr.ownsRow w.heap.size 51 1 v k ((zs.take k).flatMap ucells)) ∧ Hid (Below w.heap.size w wr)) (fun _ i _ => n - (intOf i).toNat)
  case atStart => exact ⟨0, Nat.zero_le _, rfl, World.ownsRow_nil _ _ _ _, Below.refl _ _⟩
  case round =>
    obtain ⟨k, hk, rfl, HOk, HBk⟩ := hrel
    by_cases hlt : k < n
    · obtain ⟨b1, o1, rfl, l1, c1⟩ := HX.out (by rw [← LX.out]; omega)
      have kx : k < xs.length := by rw [← LX.out]; exact hlt
      have d1 := (HBk.out.cell (p := ⟨b1, o1 + k, none⟩) l1).trans (u_cell c1 kx)
      obtain ⟨x, HXk⟩ : ∃ x : UInt64, x = ug xs (k : Nat) := ⟨_, rfl⟩
      rw [← HXk] at d1
      have HZk : Hid (zs[k]? = some (m * x)) := by
        show _ = _
        rw [HZ.out, HXk]; unfold scaleU; rw [List.getElem?_map, ug_get kx]; rfl
      have HU := Lib.hid (uz_mul m x)
      have hs := HBk.out.size
      clear c1 kx HXk
      go_wp2_with (at_builtin; refine wpList_append_own _ rfl _ _ 44 rfl w.heap.size 51 i0 (.int .u64 0) 1 8 Try.underlying44 hi hz0 hz1 hz2 rfl (by decide) _ _ _ rfl (HOk.out.alloc _) ⟨wr.heap.size, 0, none⟩ 1 1 [.int .u64 (IntKind.u64.wrap (uz m * uz x))] rfl rfl ?c1 ?c2 ?c3 ?c4 ?c5 ?_)
      case c1 =>
        intro j u hj
        match j, hj with
        | 0, hj => simp at hj; subst hj; simp [Addr.add]
      case c2 => intro u hu; simp at hu; subst hu; rfl
      case c3 => unfold maxLen; omega
      case c4 => omega
      case c5 => simp; omega
      intro v' w2 hown2 hgrow _
      have HO2 : Hid (w2.ownsRow w.heap.size 51 1 v' (k + 1) ((zs.take (k + 1)).flatMap ucells)) := by
        show World.ownsRow _ _ _ _ _ _ _
        rw [take_next HZk.out, List.flatMap_append]
        simp only [List.flatMap_cons, List.flatMap_nil, List.append_nil, ucells]
        rw [← HU.out]
        exact hown2
      have HB2 : Hid (Below w.heap.size w w2) := (HBk.out.alloc hs _).grown hgrow (by simp; omega) (fun q hqq => (HOk.out.lt _ hqq).1)
      clear hown2 hgrow HOk HBk HX d1 HZk HU l1 hs
      go_wp2_with fail
      go_roundw
      case rel => exact ⟨k + 1, by omega, by go_num, HO2, HB2⟩
      case measure => simp [intOf]; omega
    · obtain rfl : k = n := by omega
      have hf := HOk.out
      rw [List.take_of_length_le (by rw [LZ.out]; exact Nat.le_refl _)] at hf
      obtain ⟨A', c', rfl, e1, hr, e3, e4⟩ := own_cap ucells_len (by decide) hf
      have HR := Lib.hid hr; have E3 := Lib.hid e3; have E4 := Lib.hid e4
      clear hr hf e1 e3 e4
      go_wp2_with fail
      go_ret
      exact ⟨A', c', k, rfl, LZ.out, HR.out, HBk.out, E3.out, E4.out⟩

end Go.Proofs.Ytbcmhoomdackkaa

namespace Go.Proofs.Ytbcmhoomdackkaa
open Go.RowKit

/-- A slice's header. -/
structure Sl where
  a : Option Addr
  n : Nat
  c : Nat
def slcells (p : Sl) : List Value := [.slice p.a p.n p.c]
theorem slcells_len (p : Sl) : (slcells p).length = 1 := rfl
theorem sl_cell {w : World} {b off : Nat} {ps : List Sl} (h : ∀ j u, (ps.flatMap slcells)[j]? = some u → w.cell? ⟨b, off + j, none⟩ = some u) {k : Nat} {p : Sl} (hp : ps[k]? = some p) :
    w.cell? ⟨b, off + k, none⟩ = some (.slice p.a p.n p.c) := by
  have q := Rg.at slcells_len h hp
  have := q 0 _ rfl
  rw [Nat.mul_one, Nat.add_zero] at this
  exact this
def anyB (ps : List Sl) : Bool := ps.any fun p => decide (3000 < p.n)

set_option maxHeartbeats 1000000 in
set_option maxRecDepth 100000 in
theorem great7_any (c h x : Int) (A : Option Addr) (cA n : Nat) (R : Option Addr) (m cR : Nat) (ps : List Sl) (w : World) (r : Bool) (hr : (anyB ps || decide (60 < (n : Int))) = r) (hR : Rg slcells w R ps) (lm : m = ps.length) (hm : m ≤ 10) :
    Calls Try.prog 25 #[.agg #[.int .i64 c, .int .i64 h, .int .i64 x, .slice A n cA], .slice R m cR] w fun e w' => e = .returned (.bool r) ∧ Below w.heap.size w w' := by
  have HR := Lib.hid hR; have LM := Lib.hid lm; have HRR := Lib.hid hr
  have N0 := Lib.hid (NB.new w c h x (.slice A n cA))
  have B0 : Hid (Below w.heap.size w (w.alloc (.cells #[.int .i64 c, .int .i64 h, .int .i64 x, .slice A n cA] 26))) := (Below.refl _ w).alloc (Nat.le_refl _) _
  clear hR lm hr
  go_enter Try.func25, Try.ntmps25
  go_wp2_with fail
  generalize w.alloc (.cells #[.int .i64 c, .int .i64 h, .int .i64 x, .slice A n cA] 26) = W at N0 B0 ⊢
  go_loopg [5] m (fun g s5 wx => ∃ k : Nat, k ≤ m ∧ Hid (g = m - k) ∧ s5 = .int .i64 (k : Int) ∧ Hid (∀ j p, j < k → ps[j]? = some p → p.n ≤ 3000) ∧ Hid (Below W.heap.size W wx))
  case atStart => exact ⟨0, by omega, by show _ = _; omega, rfl, fun j p hj => absurd hj (by omega), Below.refl _ _⟩
  case round =>
    obtain ⟨k, hk, HG, rfl, AL, BK⟩ := hrel
    have BW := Lib.hid (chain B0.out BK.out)
    by_cases km : k < m
    · have ki : (k : Int) < (m : Int) := by omega
      obtain ⟨b1, o1, rfl, l1, q1⟩ := HR.out (by rw [← LM.out]; omega)
      obtain ⟨p, hp⟩ : ∃ p, ps[k]? = some p := ⟨_, List.getElem?_eq_getElem (by rw [← LM.out]; exact km)⟩
      have z0 := (BW.out.cell (p := ⟨b1, o1 + k, none⟩) l1).trans (sl_cell q1 hp)
      have HP := Lib.hid hp
      clear q1 hp
      by_cases big : 3000 < p.n
      · have d : decide (3000 < (p.n : Int)) = true := decide_eq_true (by omega)
        obtain rfl : r = true := by
          rw [← HRR.out, show anyB ps = true from List.any_eq_true.2 ⟨p, List.mem_of_getElem? HP.out, decide_eq_true big⟩]; rfl
        clear big
        go_wp2_with fail
        go_ret
        exact ⟨rfl, BW.out⟩
      · have d : decide (3000 < (p.n : Int)) = false := decide_eq_false (by omega)
        have AL2 : Hid (∀ j p, j < k + 1 → ps[j]? = some p → p.n ≤ 3000) := fun j p' hj hp' => by
          by_cases e : j = k
          · subst e
            rw [HP.out] at hp'
            rw [← Option.some.inj hp']; omega
          · exact AL.out j p' (by omega) hp'
        clear big
        go_wp2_with fail
        go_roundg (m - (k + 1))
        case measure => have := HG.out; omega
        case rel => exact ⟨k + 1, by omega, rfl, by go_num, AL2, BK⟩
    · obtain rfl : k = m := by omega
      obtain ⟨g, hg⟩ : ∃ g, decide (60 < (n : Int)) = g := ⟨_, rfl⟩
      obtain rfl : g = r := by
        rw [← HRR.out, show anyB ps = false from ?_, hg]; rfl
        unfold anyB
        rw [List.any_eq_false]
        intro p hp
        obtain ⟨j, hj, e⟩ := List.getElem_of_mem hp
        have := AL.out j p (by rw [LM.out]; exact hj) (by rw [List.getElem?_eq_getElem hj, e])
        simp; omega
      have GR := Lib.hid (great_any c h x A cA n wr g hg)
      have NW := Lib.hid (N0.out.below BK.out)
      obtain ⟨c0, c1, c2, c3⟩ := NW.out.cells
      clear hg
      go_wp2_with fail
      refine (GR.out).mono ?_
      rintro e w2 ⟨rfl, hb⟩
      have B2 := Lib.hid (chain BW.out hb)
      clear hb c0 c1 c2 c3
      go_wp2_with fail
      go_ret
      exact ⟨rfl, B2.out⟩

/-! ### The fixed questions -/
def hl0 : List Ly := [⟨1, 1, 2, 1⟩, ⟨2, 0, 0, 0⟩, ⟨4, 2, 0, 0⟩]
def hl1 : List Ly := [⟨3, 0, 2, 0⟩]
def hx0 : List UInt64 := [1, 2, 3, 4]
def hx1 : List UInt64 := [1, 2, 3]
def hw0 : List UInt64 := [1, 0, 0, 2, 3, 18446744073709551615]
def hw1 : List UInt64 := [1, 0, 0, 2, 3, 5]
theorem hq0 : fN ⟨1, 2, 2, hl0⟩ hx0 hw0 = [243, 18446744073709551535] := by decide +kernel
theorem hq0o : okF ⟨1, 2, 2, hl0⟩ hx0 hw0 = true := by decide +kernel
theorem hq1 : layN ⟨1, 2, 2, hl0⟩ 0 hx0 hw1 = [9] := by decide +kernel
theorem hq1o : okL ⟨1, 2, 2, hl0⟩ 0 hx0 hw1 = true := by decide +kernel
theorem hq2 : fN ⟨1, 2, 2, hl1⟩ hx0 [] = [10] := by decide +kernel
theorem hq2o : okF ⟨1, 2, 2, hl1⟩ hx0 [] = true := by decide +kernel
theorem hq3o : okF ⟨1, 2, 2, hl0⟩ hx1 hw1 = false := by decide +kernel

end Go.Proofs.Ytbcmhoomdackkaa

namespace Go.Proofs.Ytbcmhoomdackkaa
open Go.RowKit

theorem old_at {w : World} {o o' : Obj} {k : Nat} (h : w.heap[k]? = some o) : (w.alloc o').heap[k]? = some o := (Lib.alloc_old w o' k (Array.getElem?_eq_some_iff.1 h).1).trans h
theorem rl_blk {w : World} {g : Nat} {fr : Nat × Nat} {cs : Array Value} {T : Nat} {ls : List Ly} (h : w.heap[g]? = some (.cells cs T fr)) (e : cs.toList = ls.flatMap lycells) : Rl w (some ⟨g, 0, none⟩) ls := rl_of_rg (rg_block h e)

set_option maxHeartbeats 4000000 in
set_option maxRecDepth 100000 in
theorem head7_any (w : World) : Calls Try.prog 24 #[] w fun e w' => e = .returned (.bool true) ∧ Below w.heap.size w w' := by
  go_enter Try.func24, Try.ntmps24
  go_wp2_with fail
  obtain ⟨g, hg⟩ : ∃ g, g = w.heap.size + 1 := ⟨_, rfl⟩
  obtain ⟨W0, hW0⟩ : ∃ W0, W0 = (((((w.alloc (.cells #[.int .i64 1, .int .i64 2, .int .i64 2] 23)).alloc (.cells #[.int .i64 1, .int .i64 1, .int .i64 2, .int .i64 1, .int .i64 2, .int .i64 0, .int .i64 0, .int .i64 0, .int .i64 4, .int .i64 2, .int .i64 0, .int .i64 0] 40)).alloc (.cells #[.int .i64 1, .int .i64 2, .int .i64 2, .slice (some ⟨w.heap.size + 1, 0, none⟩) 3 3] 26)).alloc (.cells #[.int .u64 1, .int .u64 2, .int .u64 3, .int .u64 4] 51)).alloc (.cells #[.int .u64 1, .int .u64 0, .int .u64 0, .int .u64 2, .int .u64 3, .int .u64 18446744073709551615] 51)) := ⟨_, rfl⟩
  rw [← hW0]
  have RL0 : Rl W0 (some ⟨w.heap.size + 1, 0, none⟩) hl0 := by rw [hW0]; exact rl_blk (by repeat first | (refine new_at ?_; simp; done) | refine old_at ?_) (by rfl)
  have NN0 : NB W0 (w.heap.size + 1 + 1) 1 2 2 (.slice (some ⟨w.heap.size + 1, 0, none⟩) 3 3) := by rw [hW0]; exact (by repeat first | (refine new_at ?_; simp; done) | refine old_at ?_)
  have SS0 : W0.heap[w.heap.size]? = some (.cells #[.int .i64 1, .int .i64 2, .int .i64 2] 23 (0, 0)) := by rw [hW0]; exact (by repeat first | (refine new_at ?_; simp; done) | refine old_at ?_)
  have RX0 : Rg ucells W0 (some ⟨w.heap.size + 1 + 1 + 1, 0, none⟩) hx0 := by rw [hW0]; exact rg_block (by repeat first | (refine new_at ?_; simp; done) | refine old_at ?_) (by kernel_rfl)
  have RW0 : Rg ucells W0 (some ⟨w.heap.size + 1 + 1 + 1 + 1, 0, none⟩) hw0 := by rw [hW0]; exact rg_block (by repeat first | (refine new_at ?_; simp; done) | refine old_at ?_) (by kernel_rfl)
  have BB0 : Below w.heap.size w W0 := by rw [hW0]; repeat first | exact Below.refl _ _ | refine chain_alloc ?_ _
  clear hW0 hg
  refine (F_any 1 2 2 _ _ _ _ 3 _ 4 _ 6 hl0 hx0 hw0 _ true _ RL0 rfl (by decide) RX0 rfl RW0 rfl hq0 hq0o).mono ?_
  rintro e w1 ⟨A1, k1, n1, rfl, hn, hR, hb, hd1, hd2⟩
  obtain rfl : n1 = 2 := hn
  have B1 := Lib.hid (chain BB0 hb); have L1 := Lib.hid (RL0.below hb); have N1 := Lib.hid (NN0.below hb)
  have S1 : Hid (w1.heap[w.heap.size]? = some (.cells #[.int .i64 1, .int .i64 2, .int .i64 2] 23 (0, 0))) := (hb.block _ (Array.getElem?_eq_some_iff.1 SS0).1).trans SS0
  have Q1 := Lib.hid hR
  have s0 : w1.cell? ⟨w.heap.size, 0, none⟩ = some (.int .i64 1) := by rw [Lib.cell_of_heap S1.out]; rfl
  have s1 : w1.cell? ⟨w.heap.size, 1, none⟩ = some (.int .i64 2) := by rw [Lib.cell_of_heap S1.out]; rfl
  have s2 : w1.cell? ⟨w.heap.size, 2, none⟩ = some (.int .i64 2) := by rw [Lib.cell_of_heap S1.out]; rfl
  clear hb hR hd1 hd2 RL0 NN0 SS0 RX0 RW0 BB0 s0 s1 s2
  obtain ⟨c0, c1, c2, c3⟩ := N1.out.cells
  go_wp2_with fail
  obtain ⟨W1, hW1⟩ : ∃ W1, W1 = (w1.alloc (.cells #[.int .u64 1, .int .u64 2, .int .u64 3, .int .u64 4] 51)).alloc (.cells #[.int .u64 1, .int .u64 0, .int .u64 0, .int .u64 2, .int .u64 3, .int .u64 5] 51) := ⟨_, rfl⟩
  rw [← hW1]
  have RX1 : Rg ucells W1 (some ⟨w1.heap.size, 0, none⟩) hx0 := by rw [hW1]; exact rg_block (by repeat first | (refine new_at ?_; simp; done) | refine old_at ?_) (by kernel_rfl)
  have RW1 : Rg ucells W1 (some ⟨w1.heap.size + 1, 0, none⟩) hw1 := by rw [hW1]; exact rg_block (by repeat first | (refine new_at ?_; simp; done) | refine old_at ?_) (by kernel_rfl)
  have BB1 : Below w1.heap.size w1 W1 := by rw [hW1]; repeat first | exact Below.refl _ _ | refine chain_alloc ?_ _
  clear hW1
  refine (layer_any 1 2 2 _ _ _ _ 3 _ 4 _ 6 hl0 hx0 hw1 _ 0 true _ (L1.out.below BB1) rfl (by decide) RX1 rfl RW1 rfl hq1 hq1o).mono ?_
  rintro e w2 ⟨A2, k2, n2, rfl, hn, hR, hb, hd1, hd2⟩
  obtain rfl : n2 = 1 := hn
  have hb := BB1.trans (hb.mono BB1.size)
  have B2 := Lib.hid (chain B1.out hb); have L2 := Lib.hid (L1.out.below hb); have N2 := Lib.hid (N1.out.below hb)
  have S2 : Hid (w2.heap[w.heap.size]? = some (.cells #[.int .i64 1, .int .i64 2, .int .i64 2] 23 (0, 0))) := (hb.block _ (Array.getElem?_eq_some_iff.1 S1.out).1).trans S1.out
  have Q1 := Lib.hid (Q1.out.below hb)
  have Q2 := Lib.hid hR
  clear hb hR hd1 hd2 RX1 RW1 BB1 c0 c1 c2 c3 B1 L1 N1 S1
  have s0 : w2.cell? ⟨w.heap.size, 0, none⟩ = some (.int .i64 1) := by rw [Lib.cell_of_heap S2.out]; rfl
  have s1 : w2.cell? ⟨w.heap.size, 1, none⟩ = some (.int .i64 2) := by rw [Lib.cell_of_heap S2.out]; rfl
  have s2 : w2.cell? ⟨w.heap.size, 2, none⟩ = some (.int .i64 2) := by rw [Lib.cell_of_heap S2.out]; rfl
  go_wp2_with fail
  obtain ⟨W2, hW2⟩ : ∃ W2, W2 = (w2.alloc (.cells #[.int .i64 3, .int .i64 0, .int .i64 2, .int .i64 0] 40)).alloc (.cells #[.int .u64 1, .int .u64 2, .int .u64 3, .int .u64 4] 51) := ⟨_, rfl⟩
  rw [← hW2]
  have RL2 : Rl W2 (some ⟨w2.heap.size, 0, none⟩) hl1 := by rw [hW2]; exact rl_blk (by repeat first | (refine new_at ?_; simp; done) | refine old_at ?_) (by rfl)
  have RX2 : Rg ucells W2 (some ⟨w2.heap.size + 1, 0, none⟩) hx0 := by rw [hW2]; exact rg_block (by repeat first | (refine new_at ?_; simp; done) | refine old_at ?_) (by kernel_rfl)
  have BB2 : Below w2.heap.size w2 W2 := by rw [hW2]; repeat first | exact Below.refl _ _ | refine chain_alloc ?_ _
  clear hW2 s0 s1 s2
  refine (F_any 1 2 2 _ _ _ _ 1 _ 4 _ 0 hl1 hx0 [] _ true _ RL2 rfl (by decide) RX2 rfl (Rg.nil _ _ _) rfl hq2 hq2o).mono ?_
  rintro e w3 ⟨A3, k3, n3, rfl, hn, hR, hb, hd1, hd2⟩
  obtain rfl : n3 = 1 := hn
  have hb := BB2.trans (hb.mono BB2.size)
  have B3 := Lib.hid (chain B2.out hb); have L3 := Lib.hid (L2.out.below hb); have N3 := Lib.hid (N2.out.below hb)
  have Q1 := Lib.hid (Q1.out.below hb)
  have Q2 := Lib.hid (Q2.out.below hb)
  have Q3 := Lib.hid hR
  clear hb hR hd1 hd2 RL2 RX2 BB2 B2 L2 N2 S2
  obtain ⟨c0, c1, c2, c3⟩ := N3.out.cells
  go_wp2_with fail
  obtain ⟨W3, hW3⟩ : ∃ W3, W3 = (w3.alloc (.cells #[.int .u64 1, .int .u64 2, .int .u64 3] 51)).alloc (.cells #[.int .u64 1, .int .u64 0, .int .u64 0, .int .u64 2, .int .u64 3, .int .u64 5] 51) := ⟨_, rfl⟩
  rw [← hW3]
  have RX3 : Rg ucells W3 (some ⟨w3.heap.size, 0, none⟩) hx1 := by rw [hW3]; exact rg_block (by repeat first | (refine new_at ?_; simp; done) | refine old_at ?_) (by kernel_rfl)
  have RW3 : Rg ucells W3 (some ⟨w3.heap.size + 1, 0, none⟩) hw1 := by rw [hW3]; exact rg_block (by repeat first | (refine new_at ?_; simp; done) | refine old_at ?_) (by kernel_rfl)
  have BB3 : Below w3.heap.size w3 W3 := by rw [hW3]; repeat first | exact Below.refl _ _ | refine chain_alloc ?_ _
  clear hW3
  refine (F_any 1 2 2 _ _ _ _ 3 _ 3 _ 6 hl0 hx1 hw1 _ false _ (L3.out.below BB3) rfl (by decide) RX3 rfl RW3 rfl (f_no hq3o) hq3o).mono ?_
  rintro e w4 ⟨A4, k4, n4, rfl, hn, hR, hb, hd1, hd2⟩
  have hb := BB3.trans (hb.mono BB3.size)
  have B4 := Lib.hid (chain B3.out hb)
  have Q1 := Lib.hid (Q1.out.below hb)
  have Q2 := Lib.hid (Q2.out.below hb)
  have Q3 := Lib.hid (Q3.out.below hb)
  clear hb hR hd1 hd2 hn RX3 RW3 BB3 B3 L3 N3 c0 c1 c2 c3
  go_wp2_with fail
  refine (usame _ _ _ _ 2 2 _ [243, 18446744073709551535] _ (Q1.out.alloc _) (rg_block (heap_alloc_new w4 _) (by kernel_rfl)) rfl rfl (by decide) rfl).mono ?_
  rintro e w5 ⟨rfl, hb⟩
  have hb := ((Below.refl w4.heap.size w4).alloc (Nat.le_refl _) _).trans (hb.mono (by simp))
  have B5 := Lib.hid (chain B4.out hb)
  have Q2 := Lib.hid (Q2.out.below hb)
  have Q3 := Lib.hid (Q3.out.below hb)
  clear hb B4
  go_wp2_with fail
  refine (usame _ _ _ _ 1 1 _ [9] _ (Q2.out.alloc _) (rg_block (heap_alloc_new w5 _) (by kernel_rfl)) rfl rfl (by decide) rfl).mono ?_
  rintro e w6 ⟨rfl, hb⟩
  have hb := ((Below.refl w5.heap.size w5).alloc (Nat.le_refl _) _).trans (hb.mono (by simp))
  have B6 := Lib.hid (chain B5.out hb)
  have Q3 := Lib.hid (Q3.out.below hb)
  clear hb B5
  go_wp2_with fail
  refine (usame _ _ _ _ 1 1 _ [10] _ (Q3.out.alloc _) (rg_block (heap_alloc_new w6 _) (by kernel_rfl)) rfl rfl (by decide) rfl).mono ?_
  rintro e w7 ⟨rfl, hb⟩
  have hb := ((Below.refl w6.heap.size w6).alloc (Nat.le_refl _) _).trans (hb.mono (by simp))
  have B7 := Lib.hid (chain B6.out hb)
  clear hb B6
  go_wp2_with fail
  go_ret
  exact ⟨rfl, B7.out⟩

end Go.Proofs.Ytbcmhoomdackkaa

namespace Go.Proofs.Ytbcmhoomdackkaa
open Go.RowKit

theorem uscale_at (z : Int) (m : UInt64) (hz : z = uz m) (A : Option Addr) (cA n : Nat) (xs : List UInt64) (w : World) (hx : Rg ucells w A xs) (lx : n = xs.length) (hn : n ≤ 1000000) :
    Calls Try.prog 32 #[.int .u64 z, .slice A n cA] w (RowTo ucells (scaleU m xs) w) := by
  subst hz; exact uscale m A cA n xs w hx lx hn
theorem at_ly {c h x : Int} {ls : List Ly} {k : Nat} {l : Ly} (hl : ls[k]? = some l) {xs ws : List UInt64} (ok : okL ⟨c, h, x, ls⟩ (k : Nat) xs ws = true) : (atN ⟨c, h, x, ls⟩ (k : Nat)).l = l := by rw [at_some (okL_out ok).1.1 hl]
theorem layN_len (N : Nt) (i : Int) (xs ws : List UInt64) : (layN N i xs ws).length ≤ 128 := by
  unfold layN
  split
  · rw [lay_len]; have := size_bd (atN N i).u; omega
  · simp
theorem layN_add {c h x : Int} {ls : List Ly} {k : Nat} {l : Ly} (hl : ls[k]? = some l) (k2 : l.k ≠ 2) {xs ys ws : List UInt64} (hh : xs.length = ys.length) :
    layN ⟨c, h, x, ls⟩ (k : Nat) (addU xs ys) ws = addU (layN ⟨c, h, x, ls⟩ (k : Nat) xs ws) (layN ⟨c, h, x, ls⟩ (k : Nat) ys ws) := by
  have e1 := okL_len (N := ⟨c, h, x, ls⟩) (i := (k : Nat)) (ws := ws) (vs := ws) (addU_len hh) rfl
  have e2 := okL_len (N := ⟨c, h, x, ls⟩) (i := (k : Nat)) (ws := ws) (vs := ws) hh rfl
  cases ok : okL ⟨c, h, x, ls⟩ (k : Nat) xs ws
  · rw [lay_no (e1.trans ok), lay_no ok, lay_no (e2.symm.trans ok)]; rfl
  · rw [lay_yes (e1.trans ok), lay_yes ok, lay_yes (e2.symm.trans ok)]
    exact lay_add (by rw [at_ly hl ok]; exact k2) hh
theorem layN_scale {c h x : Int} {ls : List Ly} {k : Nat} {l : Ly} (hl : ls[k]? = some l) (k2 : l.k ≠ 2) (m : UInt64) (xs ws : List UInt64) :
    layN ⟨c, h, x, ls⟩ (k : Nat) (scaleU m xs) ws = scaleU m (layN ⟨c, h, x, ls⟩ (k : Nat) xs ws) := by
  have e1 := okL_len (N := ⟨c, h, x, ls⟩) (i := (k : Nat)) (ws := ws) (vs := ws) (scaleU_len m xs) rfl
  cases ok : okL ⟨c, h, x, ls⟩ (k : Nat) xs ws
  · rw [lay_no (e1.trans ok), lay_no ok]; rfl
  · rw [lay_yes (e1.trans ok), lay_yes ok]
    exact lay_scale (by rw [at_ly hl ok]; exact k2) m
theorem layN_wadd {c h x : Int} {ls : List Ly} {k : Nat} {l : Ly} (hl : ls[k]? = some l) (k2 : l.k ≠ 2) (k3 : l.k ≠ 3) {xs ws vs : List UInt64} (hh : ws.length = vs.length) :
    layN ⟨c, h, x, ls⟩ (k : Nat) xs (addU ws vs) = addU (layN ⟨c, h, x, ls⟩ (k : Nat) xs ws) (layN ⟨c, h, x, ls⟩ (k : Nat) xs vs) := by
  have e1 := okL_len (N := ⟨c, h, x, ls⟩) (i := (k : Nat)) (xs := xs) (ys := xs) rfl (addU_len hh)
  have e2 := okL_len (N := ⟨c, h, x, ls⟩) (i := (k : Nat)) (xs := xs) (ys := xs) rfl hh
  cases ok : okL ⟨c, h, x, ls⟩ (k : Nat) xs ws
  · rw [lay_no (e1.trans ok), lay_no ok, lay_no (e2.symm.trans ok)]; rfl
  · rw [lay_yes (e1.trans ok), lay_yes ok, lay_yes (e2.symm.trans ok)]
    exact lay_wadd (by rw [at_ly hl ok]; exact k2) (by rw [at_ly hl ok]; exact k3) hh
theorem layN_wscale {c h x : Int} {ls : List Ly} {k : Nat} {l : Ly} (hl : ls[k]? = some l) (k2 : l.k ≠ 2) (k3 : l.k ≠ 3) (m : UInt64) (xs ws : List UInt64) :
    layN ⟨c, h, x, ls⟩ (k : Nat) xs (scaleU m ws) = scaleU m (layN ⟨c, h, x, ls⟩ (k : Nat) xs ws) := by
  have e1 := okL_len (N := ⟨c, h, x, ls⟩) (i := (k : Nat)) (xs := xs) (ys := xs) rfl (scaleU_len m ws)
  cases ok : okL ⟨c, h, x, ls⟩ (k : Nat) xs ws
  · rw [lay_no (e1.trans ok), lay_no ok]; rfl
  · rw [lay_yes (e1.trans ok), lay_yes ok]
    exact lay_wscale (by rw [at_ly hl ok]; exact k2) (by rw [at_ly hl ok]; exact k3) m
theorem layN_noW {c h x : Int} {ls : List Ly} {k : Nat} {l : Ly} (hl : ls[k]? = some l) (k23 : l.k = 2 ∨ l.k = 3) (xs : List UInt64) {ws vs : List UInt64} (hh : vs.length = ws.length) :
    layN ⟨c, h, x, ls⟩ (k : Nat) xs vs = layN ⟨c, h, x, ls⟩ (k : Nat) xs ws := by
  have e1 := okL_len (N := ⟨c, h, x, ls⟩) (i := (k : Nat)) (xs := xs) (ys := xs) rfl hh
  cases ok : okL ⟨c, h, x, ls⟩ (k : Nat) xs ws
  · rw [lay_no (e1.trans ok), lay_no ok]
  · rw [lay_yes (e1.trans ok), lay_yes ok]
    exact lay_noW (by rw [at_ly hl ok]; exact k23) xs _ _
theorem layN_square {c h x : Int} {ls : List Ly} {k : Nat} {l : Ly} (hl : ls[k]? = some l) (k2 : l.k = 2) {xs ws : List UInt64} (ok : okL ⟨c, h, x, ls⟩ (k : Nat) xs ws = true) :
    layN ⟨c, h, x, ls⟩ (k : Nat) xs ws = mulU xs xs := by
  rw [lay_yes ok]
  exact lay_square (okL_good ok) (by rw [at_ly hl ok]; exact k2) (okL_out ok).2.1 ws
theorem mul_neg (xs : List UInt64) : mulU (scaleU 18446744073709551615 xs) (scaleU 18446744073709551615 xs) = mulU xs xs := by
  rw [mul_scale]
  unfold scaleU
  rw [show ((18446744073709551615 : UInt64) * 18446744073709551615) = 1 by decide]
  simp
theorem layN_zero (N : Nt) (i : Int) (xs ws : List UInt64) : layN N i (noughts xs.length) ws = noughts (layN N i (noughts xs.length) ws).length := by
  cases ok : okL N i (noughts xs.length) ws
  · rw [lay_no ok]; rfl
  · rw [lay_yes ok, lay_zero]; unfold noughts; simp
theorem layN_wzero {c h x : Int} {ls : List Ly} {k : Nat} {l : Ly} (hl : ls[k]? = some l) (k2 : l.k ≠ 2) (k3 : l.k ≠ 3) (xs ws : List UInt64) :
    layN ⟨c, h, x, ls⟩ (k : Nat) xs (noughts ws.length) = noughts (layN ⟨c, h, x, ls⟩ (k : Nat) xs (noughts ws.length)).length := by
  cases ok : okL ⟨c, h, x, ls⟩ (k : Nat) xs (noughts ws.length)
  · rw [lay_no ok]; rfl
  · rw [lay_yes ok, lay_wzero (by rw [at_ly hl ok]; exact k2) (by rw [at_ly hl ok]; exact k3)]; unfold noughts; simp
theorem layN_same_len {N : Nt} {i : Int} {xs ys ws vs : List UInt64} (h1 : xs.length = ys.length) (h2 : ws.length = vs.length) : (layN N i xs ws).length = (layN N i ys vs).length := by
  have e1 := okL_len (N := N) (i := i) h1 h2
  cases ok : okL N i ys vs
  · rw [lay_no (e1.trans ok), lay_no ok]
  · rw [lay_yes (e1.trans ok), lay_yes ok, lay_len, lay_len]
theorem noughts_len (n : Nat) : (noughts n).length = n := by simp [noughts]

end Go.Proofs.Ytbcmhoomdackkaa
