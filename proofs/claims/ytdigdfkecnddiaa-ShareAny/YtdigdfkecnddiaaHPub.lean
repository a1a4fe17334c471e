/-
  What package share answers: Split, Join, Part.
-/
import Derived.Test.YtdigdfkecnddiaaHMath
import Derived.Test.YtdigdfkecnddiaaNRing
import Derived.Test.YtdigdfkecnddiaaSPub
namespace Go.Proofs.Ytdigdfkecnddiaa
open Go.RowKit

set_option maxHeartbeats 1000000 in
theorem split10 (s : UInt64) (A : Option Addr) (cA n : Nat) (xs : List UInt64) (w : World) (hx : Rg ucells w A xs) (lx : n = xs.length) (hn : n ≤ 1000000) :
    Calls Try.prog 37 #[.int .u64 (uz s), .slice A n cA] w (TwoTo (splA s xs) (splB s xs) w) := by
  have HX := Lib.hid hx; have LX := Lib.hid lx
  by_cases h1 : 4096 < n
  · have d : decide (4096 < (n : Int)) = true := decide_eq_true (by omega)
    have E1 : Hid (splA s xs = []) := splA_no (by omega)
    have E2 : Hid (splB s xs = []) := splB_no (by omega)
    clear hx lx h1
    go_enter Try.func37, Try.ntmps37
    go_wp2_with fail
    go_ret2
    exact ⟨none, 0, 0, none, 0, 0, rfl, by rw [E1.out]; rfl, by rw [E1.out]; exact Rg.nil _ _ _, by rw [E2.out]; rfl, by rw [E2.out]; exact Rg.nil _ _ _, Below.refl _ _, Nat.le_refl _, Nat.zero_le _, Nat.le_refl _, Nat.zero_le _⟩
  have d : decide (4096 < (n : Int)) = false := decide_eq_false (by omega)
  have C1 : Hid (∀ w, Calls Try.prog 33 #[.int .u64 (uz s), .int .u64 0, .int .i64 (n : Int)] w (RowTo ucells (splA s xs) w)) := fun w => by unfold splA; rw [← lx]; exact row9 s 0 (n : Int) w
  obtain ⟨ps, has⟩ : ∃ ps, ps = splA s xs := ⟨_, rfl⟩
  have E2 : Hid (splB s xs = subR xs ps) := by rw [has]; rfl
  rw [← has] at C1 ⊢
  clear hx lx h1 has
  go_enter Try.func37, Try.ntmps37
  go_wp2_with fail
  refine (C1.out _).mono ?_
  rintro e w1 ⟨A1, k1, n1, rfl, h1, h2, hb, h4, h5⟩
  have M1 := Lib.hid h1; have R1 := Lib.hid h2; have B1 := Lib.hid hb; have K1 := Lib.hid h4; have K2 := Lib.hid h5
  clear h1 h2 hb h4 h5
  go_wp2_with fail
  refine (sub10 A A1 cA k1 n n1 xs ps _ (HX.out.below B1.out) R1.out LX.out M1.out hn).mono ?_
  rintro e w2 ⟨A2, k2, n2, rfl, h1, h2, hb, h4, h5, _⟩
  have M2 := Lib.hid h1; have R2 := Lib.hid h2; have B2 := Lib.hid (chain B1.out hb); have K3 := Lib.hid h4; have K4 := Lib.hid h5
  have R1 := Lib.hid (R1.out.below hb)
  clear h1 h2 hb h4 h5
  go_wp2_with fail
  go_ret2
  exact ⟨A1, k1, n1, A2, k2, n2, rfl, M1.out, R1.out, by rw [E2.out]; exact M2.out, by rw [E2.out]; exact R2.out, B2.out, K1.out, K2.out, K3.out, K4.out⟩

set_option maxHeartbeats 1000000 in
theorem join10 (A B : Option Addr) (cA cB na nb : Nat) (xs ys : List UInt64) (w : World) (hx : Rg ucells w A xs) (hy : Rg ucells w B ys) (lx : na = xs.length) (ly : nb = ys.length) (hn : na ≤ 1000000) :
    Calls Try.prog 39 #[.slice A na cA, .slice B nb cB] w (RowTo ucells (addR xs ys) w) := by
  have HP := Lib.hid (add10 A B cA cB na nb xs ys w hx hy lx ly hn)
  clear hx hy lx ly
  go_enter Try.func39, Try.ntmps39
  go_wp2_with fail
  refine HP.out.mono ?_
  rintro e w1 ⟨A', c', n', rfl, h1, h2, h3, h4, h5, _⟩
  have H1 := Lib.hid h1; have H2 := Lib.hid h2; have H3 := Lib.hid h3; have H4 := Lib.hid h4; have H5 := Lib.hid h5
  clear h1 h2 h3 h4 h5
  go_wp2_with fail
  go_ret
  exact ⟨A', c', n', rfl, H1.out, H2.out, H3.out, H4.out, H5.out⟩

/-- What a party keeps of a number that both know. -/
def keepN (who : Int) (x : UInt64) : UInt64 := if who = 0 then x else 0
theorem part_map (who : Int) (xs : List UInt64) : xs.map (keepN who) = partN who xs := by
  unfold partN keepN
  split
  · simp
  · apply List.ext_getElem <;> simp

set_option maxHeartbeats 1000000 in
theorem keep10 (who : Int) (x : UInt64) (b : Nat) (w : World) (hb : CB w b 3 (.int .i64 who)) :
    Calls Try.prog 53 #[.int .u64 (uz x), .pointer (some ⟨b, 0, none⟩)] w fun e w' => e = .returned (.int .u64 (uz (keepN who x))) ∧ w = w' := by
  have c := hb.cell
  have lt := hb.lt
  clear hb
  by_cases h0 : who = 0
  · have d : (who == 0) = true := by simp [h0]
    have E : Hid (keepN who x = x) := if_pos h0
    clear h0
    go_enter Try.func53, Try.ntmps53
    go_wp2_with fail
    go_ret
    exact ⟨by rw [E.out]; rfl, rfl⟩
  · have d : (who == 0) = false := by simp [h0]
    have E : Hid (keepN who x = 0) := if_neg h0
    clear h0
    go_enter Try.func53, Try.ntmps53
    go_wp2_with fail
    go_ret
    exact ⟨by rw [E.out]; rfl, rfl⟩

set_option maxHeartbeats 1000000 in
theorem turn10 (F : Nat) (caps : Array Value) (g : UInt64 → UInt64) (A : Option Addr) (cA n : Nat) (xs : List UInt64) (w : World) (hx : Rg ucells w A xs)
    (lx : xs.length = n) (hn : n ≤ 1000000)
    (hE : ∀ args w, Sem.run Try.prog (callFunc F args) w = .ok (.enter F args) w)
    (hF : ∀ (x : UInt64) (w1 : World), Below w.heap.size w w1 → Calls Try.prog F (#[.int .u64 (uz x)] ++ caps) w1 fun e w' => e = .returned (.int .u64 (uz (g x))) ∧ w1 = w') :
    Calls Try.prog 52 #[.slice A n cA, .func (.func F) #[] caps] w (RowNew ucells (xs.map g) w) := by
  obtain ⟨i0, hi, hz0, hz1, hz2⟩ := info_parts Try.info23
  have hmk : ∀ w : World, (Instr.makeSlice 22 (.int .i64 (n : Int)) (.int .i64 (n : Int))).run Try.prog w = .ok (.slice (some ⟨w.heap.size, 0, none⟩) n n) (w.alloc (.cells (madeCells #[.int .u64 0] n) 23)) := fun w => by
    have := run_make (P := Try.prog) w 22 23 i0 _ Try.underlying22 hi hz0 .i64 .i64 (n : Int) (n : Int) (by omega) (Int.le_refl _) (by rw [hz2]; omega) (by omega)
    rw [hz1, Nat.mul_one] at this
    exact this
  have HF := Lib.hid hF; clear hF
  have HX := Lib.hid hx; clear hx
  obtain ⟨zs, hzs⟩ : ∃ zs, zs = xs.map g := ⟨_, rfl⟩
  rw [← hzs]
  have lz : zs.length = n := by rw [hzs]; simp [lx]
  have HZ := Lib.hid hzs; clear hzs
  have LX := Lib.hid lx; clear lx
  have LZ := Lib.hid lz; clear lz
  go_enter Try.func52, Try.ntmps52
  go_wp2_with fail
  obtain ⟨p, hp⟩ : ∃ p, p = w.heap.size := ⟨_, rfl⟩
  obtain ⟨W, hW⟩ : ∃ W, W = w.alloc (.cells (madeCells #[.int .u64 0] n) 23) := ⟨_, rfl⟩
  have F0 : Hid (SB9 W p n 0 zs) := by rw [hW, hp]; exact SB9.start w n _
  have B0 : Hid (Below w.heap.size w W) := by rw [hW]; exact (Below.refl _ w).alloc (Nat.le_refl _) _
  have gl : w.heap.size ≤ p := by omega
  rw [← hW, ← hp]
  clear hW hp hi hz0 hz1 hz2 hmk
  go_loopg [6, 7, 13] n (fun gh _ _ i wr => ∃ k : Nat, k ≤ n ∧ Hid (gh = n - k) ∧ i = .int .i64 k ∧ Hid (SB9 wr p n k zs) ∧ Hid (Below w.heap.size w wr))
  case atStart => exact ⟨0, Nat.zero_le _, by show _ = _; omega, rfl, F0, B0⟩
  case round =>
    obtain ⟨k, hk, HG, rfl, HOk, HBk⟩ := hrel
    by_cases hlt : k < n
    · obtain ⟨b1, o1, rfl, l1, c1⟩ := HX.out (by rw [LX.out]; omega)
      obtain ⟨x, HXk⟩ := get_some hlt LX.out
      have d1 := (HBk.out.cell (p := ⟨b1, o1 + k, none⟩) l1).trans (su_cell c1 HXk)
      have HZk : Hid (zs[k]? = some (g x)) := by
        show _ = _
        rw [HZ.out, List.getElem?_map, HXk]; rfl
      obtain ⟨⟨v0, d4⟩, d3⟩ := HOk.out.facts hlt
      have ki : (k : Int) < (n : Int) := by omega
      have ka : (0 : Int) ≤ (k : Int) := by omega
      clear c1 HXk
      go_wp2_with fail
      refine (HF.out x _ HBk.out).mono ?_
      rintro e w2 ⟨rfl, rfl⟩
      go_wp2_with fail
      have HS : Hid (SB9 (wr.setCell ⟨p, k, none⟩ (.int .u64 (uz (g x)))) p n (k + 1) zs) := HOk.out.step hlt HZk.out
      have HT : Hid (Below w.heap.size w (wr.setCell ⟨p, k, none⟩ (.int .u64 (uz (g x))))) := HBk.out.setCell (p := ⟨p, k, none⟩) gl _
      go_roundg (n - (k + 1))
      case measure => have := HG.out; omega
      case rel => exact ⟨k + 1, by omega, rfl, by go_num, HS, HT⟩
    · obtain rfl : k = n := by omega
      go_wp2_with fail
      go_ret
      exact ⟨some ⟨p, 0, none⟩, k, k, rfl, LZ.out.symm, HOk.out.done LZ.out, HBk.out, Nat.le_refl _, by unfold maxLen; omega, fun a ha => by injection ha with ha; rw [← ha]; exact gl⟩

set_option maxHeartbeats 1000000 in
theorem part10 (who : Int) (A : Option Addr) (cA n : Nat) (xs : List UInt64) (w : World) (hx : Rg ucells w A xs) (lx : n = xs.length) (hn : n ≤ 1000000) :
    Calls Try.prog 41 #[.int .i64 who, .slice A n cA] w (RowTo ucells (partN who xs) w) := by
  have hmf : ∀ (fn : Fn) (first cap : Array Value) (w : World), (Instr.makeFunc fn first cap).run Try.prog w = .ok (.func fn first cap) w := fun _ _ _ _ => rfl
  have B0 := Lib.hid (chain_alloc (Below.refl _ w) (.cells #[.int .i64 who] 3))
  have C0 : Hid (CB (w.alloc (.cells #[.int .i64 who] 3)) w.heap.size 3 (.int .i64 who)) := heap_alloc_new w _
  have HP := Lib.hid (turn10 53 #[.pointer (some ⟨w.heap.size, 0, none⟩)] (keepN who) A cA n xs (w.alloc (.cells #[.int .i64 who] 3)) (hx.below B0.out) lx.symm hn (by intro args w; go_simp) (fun x w1 hb => keep10 who x w.heap.size w1 (C0.out.below hb)))
  have E := Lib.hid (part_map who xs)
  clear hx lx
  go_enter Try.func41, Try.ntmps41
  go_wp2_with fail
  refine HP.out.mono ?_
  rintro e w1 ⟨A', c', n', rfl, h1, h2, h3, h4, h5, _⟩
  rw [E.out] at h1 h2
  have H1 := Lib.hid h1; have H2 := Lib.hid h2; have H3 := Lib.hid (chain B0.out h3); have H4 := Lib.hid h4; have H5 := Lib.hid h5
  clear h1 h2 h3 h4 h5
  go_wp2_with fail
  go_ret
  exact ⟨A', c', n', rfl, H1.out, H2.out, H3.out, H4.out, H5.out⟩

end Go.Proofs.Ytdigdfkecnddiaa
