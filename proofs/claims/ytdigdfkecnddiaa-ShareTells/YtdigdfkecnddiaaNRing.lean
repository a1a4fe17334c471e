/-
  What package ring answers, of rows: Add, Sub.
-/
import Derived.Test.YtdigdfkecnddiaaNRow
namespace Go.Proofs.Ytdigdfkecnddiaa
open Go.RowKit

set_option maxHeartbeats 400000 in
theorem pair10_core (F : Nat) (caps : Array Value) (g : UInt64 → UInt64 → UInt64) (A B : Option Addr) (cA cB na nb n : Nat) (xs ys : List UInt64) (w : World) (hx : Rg ucells w A xs) (hy : Rg ucells w B ys)
    (lx : xs.length = n) (ly : ys.length = n) (hn : n ≤ 1000000) (hc : (n = na ∧ n ≤ nb ∧ n ≤ nb) ∨ (n = nb ∧ n < na ∧ n ≤ na))
    (hE : ∀ args w, Sem.run Try.prog (callFunc F args) w = .ok (.enter F args) w)
    (hF : ∀ (x y : UInt64) (w1 : World), Below w.heap.size w w1 → Calls Try.prog F (#[.int .u64 (uz x), .int .u64 (uz y)] ++ caps) w1 fun e w' => e = .returned (.int .u64 (uz (g x y))) ∧ w1 = w') :
    Calls Try.prog 43 #[.slice A na cA, .slice B nb cB, .func (.func F) #[] caps] w (RowNew ucells (List.zipWith g xs ys) w) := by
  obtain ⟨i0, hi, hz0, hz1, hz2⟩ := info_parts Try.info23
  have hmk : ∀ w : World, (Instr.makeSlice 22 (.int .i64 (n : Int)) (.int .i64 (n : Int))).run Try.prog w = .ok (.slice (some ⟨w.heap.size, 0, none⟩) n n) (w.alloc (.cells (madeCells #[.int .u64 0] n) 23)) := fun w => by
    have := run_make (P := Try.prog) w 22 23 i0 _ Try.underlying22 hi hz0 .i64 .i64 (n : Int) (n : Int) (by omega) (Int.le_refl _) (by rw [hz2]; omega) (by omega)
    rw [hz1, Nat.mul_one] at this
    exact this
  have HF := Lib.hid hF; clear hF
  have HX := Lib.hid hx; clear hx
  have HY := Lib.hid hy; clear hy
  obtain ⟨zs, hzs⟩ : ∃ zs, zs = List.zipWith g xs ys := ⟨_, rfl⟩
  rw [← hzs]
  have lz : zs.length = n := by rw [hzs]; simp [lx, ly]
  have HZ := Lib.hid hzs; clear hzs
  have LX := Lib.hid lx; clear lx
  have LY := Lib.hid ly; clear ly
  have LZ := Lib.hid lz; clear lz
  rcases hc with ⟨h1, h2, h3⟩ | ⟨h1, h2, h3⟩
  all_goals
    subst h1
    go_enter Try.func43, Try.ntmps43
    go_wp2_with fail
    obtain ⟨p, hp⟩ : ∃ p, p = w.heap.size := ⟨_, rfl⟩
    obtain ⟨W, hW⟩ : ∃ W, W = w.alloc (.cells (madeCells #[.int .u64 0] n) 23) := ⟨_, rfl⟩
    have F0 : Hid (SB9 W p n 0 zs) := by rw [hW, hp]; exact SB9.start w n _
    have B0 : Hid (Below w.heap.size w W) := by rw [hW]; exact (Below.refl _ w).alloc (Nat.le_refl _) _
    have gl : w.heap.size ≤ p := by omega
    rw [← hW, ← hp]
    clear hW hp hi hz0 hz1 hz2 hmk
    go_loopw [17] (fun i wr => ∃ k : Nat, k ≤ n ∧ i = .int .i64 k ∧ Hid (SB9 wr p n k zs) ∧ Hid (Below w.heap.size w wr)) (fun i _ => n - (intOf i).toNat)
    case atStart => exact ⟨0, Nat.zero_le _, rfl, F0, B0⟩
    case round =>
      obtain ⟨k, hk, rfl, HOk, HBk⟩ := hrel
      by_cases hlt : k < n
      · obtain ⟨b1, o1, rfl, l1, c1⟩ := HX.out (by rw [LX.out]; omega)
        obtain ⟨b2, o2, rfl, l2, c2⟩ := HY.out (by rw [LY.out]; omega)
        obtain ⟨x, HXk⟩ := get_some hlt LX.out
        obtain ⟨y, HYk⟩ := get_some hlt LY.out
        have d1 := (HBk.out.cell (p := ⟨b1, o1 + k, none⟩) l1).trans (su_cell c1 HXk)
        have d2 := (HBk.out.cell (p := ⟨b2, o2 + k, none⟩) l2).trans (su_cell c2 HYk)
        have HZk : Hid (zs[k]? = some (g x y)) := by
          show _ = _
          rw [HZ.out, List.getElem?_zipWith, HXk, HYk]
        obtain ⟨⟨v0, d4⟩, d3⟩ := HOk.out.facts hlt
        have hq := Nat.lt_of_lt_of_le hlt h3
        clear c1 c2 HXk HYk
        go_wp2_with fail
        go_still_tail 13, (by kernel_rfl)
        still_call ((HF.out x y _ HBk.out.drew).mono fun _ _ h => ⟨h.1, h.2.symm⟩)
        repeat still_step
        refine wpStill_nil ?_
        have HS : Hid (SB9 (wr.setCell ⟨p, k, none⟩ (.int .u64 (uz (g x y)))) p n (k + 1) zs) := HOk.out.step hlt HZk.out
        have HT : Hid (Below w.heap.size w (wr.setCell ⟨p, k, none⟩ (.int .u64 (uz (g x y))))) := HBk.out.setCell (p := ⟨p, k, none⟩) gl _
        clear HOk HBk HX HY d1 d2 HZk
        go_wp2_with fail
        go_roundw
        case rel => exact ⟨k + 1, by omega, by go_num, SB9.drew HS.out, HT.out.drew⟩
        case measure => simp [intOf]; omega
      · obtain rfl : k = n := by omega
        go_wp2_with fail
        go_ret
        exact ⟨some ⟨p, 0, none⟩, k, k, rfl, LZ.out.symm, HOk.out.done LZ.out, HBk.out, Nat.le_refl _, by unfold maxLen; omega, fun a ha => by injection ha with ha; rw [← ha]; exact gl⟩

theorem pair10 (F : Nat) (caps : Array Value) (g : UInt64 → UInt64 → UInt64) (A B : Option Addr) (cA cB na nb : Nat) (xs ys : List UInt64) (w : World) (hx : Rg ucells w A xs) (hy : Rg ucells w B ys)
    (lx : na = xs.length) (ly : nb = ys.length) (hn : na ≤ 1000000)
    (hE : ∀ args w, Sem.run Try.prog (callFunc F args) w = .ok (.enter F args) w)
    (hF : ∀ (x y : UInt64) (w1 : World), Below w.heap.size w w1 → Calls Try.prog F (#[.int .u64 (uz x), .int .u64 (uz y)] ++ caps) w1 fun e w' => e = .returned (.int .u64 (uz (g x y))) ∧ w1 = w') :
    Calls Try.prog 43 #[.slice A na cA, .slice B nb cB, .func (.func F) #[] caps] w (RowNew ucells (List.zipWith g xs ys) w) := by
  subst lx ly
  have := pair10_core F caps g A B cA cB xs.length ys.length (min xs.length ys.length) (xs.take (min xs.length ys.length)) (ys.take (min xs.length ys.length)) w (hx.take _) (hy.take _) (by simp) (by simp) (by omega) (by omega) hE hF
  rw [zip_takeR] at this
  exact this

set_option maxHeartbeats 400000 in
theorem add10_clo (x y : UInt64) (w : World) :
    Calls Try.prog 44 #[.int .u64 (uz x), .int .u64 (uz y)] w fun e w' => e = .returned (.int .u64 (uz (x + y))) ∧ w = w' := by
  have H := Lib.hid (uz_add x y)
  go_enter Try.func44, Try.ntmps44
  go_wp2
  go_ret
  exact ⟨congrArg (fun n => Ending.returned (.int .u64 n)) H.out, rfl⟩
set_option maxHeartbeats 400000 in
theorem add10 (A B : Option Addr) (cA cB na nb : Nat) (xs ys : List UInt64) (w : World) (hx : Rg ucells w A xs) (hy : Rg ucells w B ys) (lx : na = xs.length) (ly : nb = ys.length) (hn : na ≤ 1000000) :
    Calls Try.prog 16 #[.slice A na cA, .slice B nb cB] w (RowNew ucells (addR xs ys) w) := by
  have HP := Lib.hid (pair10 44 #[] (· + ·) A B cA cB na nb xs ys w hx hy lx ly hn (by intro args w; go_simp) (fun x y w1 _ => add10_clo x y w1))
  clear hx hy lx ly
  go_enter Try.func16, Try.ntmps16
  go_wp2_with fail
  refine HP.out.mono ?_
  rintro e w1 ⟨A', c', n', rfl, h1, h2, h3, h4, h5, h6⟩
  have H1 := Lib.hid h1; have H2 := Lib.hid h2; have H3 := Lib.hid h3; have H4 := Lib.hid h4; have H5 := Lib.hid h5; have H6 := Lib.hid h6
  clear h1 h2 h3 h4 h5 h6
  go_wp2_with fail
  go_ret
  exact ⟨A', c', n', rfl, H1.out, H2.out, H3.out, H4.out, H5.out, H6.out⟩

set_option maxHeartbeats 400000 in
theorem sub10_clo (x y : UInt64) (w : World) :
    Calls Try.prog 45 #[.int .u64 (uz x), .int .u64 (uz y)] w fun e w' => e = .returned (.int .u64 (uz (x - y))) ∧ w = w' := by
  have H := Lib.hid (uz_sub x y)
  go_enter Try.func45, Try.ntmps45
  go_wp2
  go_ret
  exact ⟨congrArg (fun n => Ending.returned (.int .u64 n)) H.out, rfl⟩
set_option maxHeartbeats 400000 in
theorem sub10 (A B : Option Addr) (cA cB na nb : Nat) (xs ys : List UInt64) (w : World) (hx : Rg ucells w A xs) (hy : Rg ucells w B ys) (lx : na = xs.length) (ly : nb = ys.length) (hn : na ≤ 1000000) :
    Calls Try.prog 18 #[.slice A na cA, .slice B nb cB] w (RowNew ucells (subR xs ys) w) := by
  have HP := Lib.hid (pair10 45 #[] (· - ·) A B cA cB na nb xs ys w hx hy lx ly hn (by intro args w; go_simp) (fun x y w1 _ => sub10_clo x y w1))
  clear hx hy lx ly
  go_enter Try.func18, Try.ntmps18
  go_wp2_with fail
  refine HP.out.mono ?_
  rintro e w1 ⟨A', c', n', rfl, h1, h2, h3, h4, h5, h6⟩
  have H1 := Lib.hid h1; have H2 := Lib.hid h2; have H3 := Lib.hid h3; have H4 := Lib.hid h4; have H5 := Lib.hid h5; have H6 := Lib.hid h6
  clear h1 h2 h3 h4 h5 h6
  go_wp2_with fail
  go_ret
  exact ⟨A', c', n', rfl, H1.out, H2.out, H3.out, H4.out, H5.out, H6.out⟩

end Go.Proofs.Ytdigdfkecnddiaa
