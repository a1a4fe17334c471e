/-
  DescrCut: a network's text that is cut is told at the line that was cut; cut behind a line it is that of fewer layers.
-/
import Derived.Test.YtmlflmlgjjjmfaaDoorLPrints
import Derived.IntWalk
namespace Go.Proofs.YtmlflmlgjjjmfaaDoor
open Go.RowKit

theorem Rl.take {w : World} {A : Option Addr} {ls : List Ly} (h : Rl w A ls) (k : Nat) : Rl w A (ls.take k) := fun h0 => by
  rw [List.length_take] at h0
  obtain ⟨b, off, e, hlt, hc⟩ := h (by omega)
  refine ⟨b, off, e, hlt, fun j hj => ?_⟩
  rw [List.length_take] at hj
  have : (ls.take k).getD j Ly.z = ls.getD j Ly.z := by
    rw [List.getD_eq_getElem?_getD, List.getD_eq_getElem?_getD, List.getElem?_take, if_pos (by omega)]
  rw [this]
  exact hc j (by omega)
theorem last_take {l : List UInt8} {k : Nat} {b : UInt8} (hk : 1 ≤ k) (h : l[k - 1]? = some b) : (l.take k).getLast? = some b := by
  obtain ⟨j, rfl⟩ : ∃ j, k = j + 1 := ⟨k - 1, by omega⟩
  rw [take_get (by simpa using h)]
  simp

theorem text_at (t : ByteArray) (j : Nat) (h : j < t.size) (wx : World) : (Instr.index 9 (.string t) (.int .i64 (j : Int))).run Tryd.prog wx = .ok (.int .u8 ((t[j]'h).toNat : Int)) wx := by
  go_simp

set_option maxHeartbeats 8000000 in
set_option maxRecDepth 100000 in
theorem law_cut (c h x : Int) (A : Option Addr) (cA n : Nat) (ls : List Ly) (a : Int) (w : World) (hx : Rl w A ls) (ln : n = ls.length) (hcap : n ≤ cA) (ha : 0 ≤ a ∧ a ≤ 65535) (hL : Laid w) :
    Calls Tryd.prog 6 #[.agg #[.int .i64 c, .int .i64 h, .int .i64 x, .slice A n cA], .int .u16 a] w fun e w' => e = .returned (.bool true) ∧ Below w.heap.size w w' := by
  obtain ⟨q, rfl⟩ : ∃ q : Nat, a = q := ⟨a.toNat, by omega⟩
  have hq : q ≤ 65535 := by omega
  have S0 := Lib.hid ((Ctx.refl hL).alloc (.cells #[.int .i64 c, .int .i64 h, .int .i64 x, .slice A n cA] 26))
  have N0 := Lib.hid (Nn.new (N := ⟨c, h, x, ls⟩) (n := n) (k := cA) ln hx)
  have LX := Lib.hid ln
  clear hx ln hL ha
  go_enter Tryd.func6, Tryd.ntmps6
  go_wp2_with fail
  refine (head_any _ S0.out.2).mono ?_
  rintro e w1 ⟨rfl, hb⟩
  have S1 := Lib.hid (S0.out.below hb)
  have N1 := Lib.hid (N0.out.below hb)
  clear hb S0 N0
  obtain ⟨a0, a1, a2, a3⟩ := N1.out.1.cells
  simp only at a0 a1 a2
  by_cases hn : n ≤ 60
  · go_wp2_with fail
    refine (great_no c h x A cA n _ hn).mono ?_
    rintro e w2 ⟨rfl, hb⟩
    have S2 := Lib.hid (S1.out.below hb)
    have N2 := Lib.hid (N1.out.below hb)
    clear hb S1 N1 a0 a1 a2 a3
    obtain ⟨a0, a1, a2, a3⟩ := N2.out.1.cells
    simp only at a0 a1 a2
    go_wp2_with fail
    refine (form_any c h x A cA n ls _ N2.out.2.2 LX.out (by omega)).mono ?_
    rintro e w3 ⟨rfl, hb⟩
    have S3 := Lib.hid (S2.out.below hb)
    have N3 := Lib.hid (N2.out.below hb)
    clear hb S2 N2 a0 a1 a2 a3
    obtain ⟨a0, a1, a2, a3⟩ := N3.out.1.cells
    simp only at a0 a1 a2
    cases hf : formB ⟨c, h, x, ls⟩
    · clear hf
      go_wp2_with fail
      go_ret
      exact ⟨rfl, S3.out.1⟩
    · have HF := Lib.hid hf
      clear hf
      go_wp2_with fail
      refine (print_any c h x A cA n ls _ N3.out.2.2 LX.out (by omega) S3.out.2).mono ?_
      rintro e w4 ⟨rfl, hb⟩
      have S4 := Lib.hid (S3.out.below hb)
      have N4 := Lib.hid (N3.out.below hb)
      clear hb S3 N3 a0 a1 a2 a3
      obtain ⟨t, HT⟩ : ∃ t, Hid (t = ba (printL ⟨c, h, x, ls⟩)) := ⟨_, rfl⟩
      have HTb : Hid (bl t = printL ⟨c, h, x, ls⟩) := by show _ = _; rw [HT.out, bl_ba]
      have hts : t.size ≤ 400 := by rw [size_bl, HTb.out]; exact print_len _
      have ht1 : 1 ≤ t.size := by
        rw [size_bl, HTb.out]
        have := print_ne HF.out
        cases hq : printL ⟨c, h, x, ls⟩ with
        | nil => exact absurd hq this
        | cons a b => simp
      rw [← HT.out]
      obtain ⟨k, hk, hkt⟩ : ∃ k : Nat, (q : Int) % (t.size : Int) = (k : Int) ∧ k < t.size := ⟨q % t.size, by omega, Nat.mod_lt _ (by omega)⟩
      have hkI : (k : Int) < (t.size : Int) := by omega
      have d1 : ((t.size : Int) == 0) = false := ne_beq (by omega)
      have d2 : (t.size == 0) = false := beq_eq_false_iff_ne.2 (by omega)
      have hsl : ∀ wx, (Instr.slice 9 (.string t) none (some (.int .i64 (k : Int))) none).run Tryd.prog wx = .ok (.string (t.extract 0 k)) wx := fun wx => by go_simp; intro hh; omega
      obtain ⟨u, hu⟩ : ∃ u, u = t.extract 0 k := ⟨_, rfl⟩
      rw [← hu] at hsl
      have HU : Hid (bl u = (printL ⟨c, h, x, ls⟩).take k) := by show _ = _; rw [hu, bl_cut, HTb.out]; simp
      have hus : u.size ≤ 400 := by rw [size_bl, HU.out, List.length_take]; have := print_len ⟨c, h, x, ls⟩; omega
      have hkp : k < (printL ⟨c, h, x, ls⟩).length := by rw [← HTb.out, ← size_bl]; exact hkt
      clear hu
      go_wp2_with fail
      refine (rlines_any u _ (by omega)).mono ?_
      rintro e w5 ⟨A5, k5, n5, rfl, hn5, _, hb, _⟩
      have S5 := Lib.hid (S4.out.below hb)
      have N5 := Lib.hid (N4.out.below hb)
      have HN5 : Hid (n5 = (cutF 10 ((printL ⟨c, h, x, ls⟩).take k)).1.length) := by show _ = _; rw [hn5, HU.out]
      have hn5b : n5 ≤ 400 := by
        have h1 := cut_count 10 (bl u)
        have h2 := List.count_le_length (a := (10 : UInt8)) (l := bl u)
        rw [← size_bl] at h2
        omega
      clear hb hn5 S4 N4
      by_cases hk0 : k = 0
      · have HP : Hid (parseL (bl u) = (Nt.zero, n5 + 1, 12)) := by
          show _ = _
          rw [HU.out, HN5.out]
          exact parse_cut_mid HF.out k hkp (by rw [hk0]; simp)
        have z1 : ((k : Int) == 0) = true := by rw [hk0]; rfl
        have z2 : (k == 0) = true := by rw [hk0]; rfl
        clear hk0
        go_wp2_with fail
        refine (parse_is u _ HP.out _ (by omega) S5.out.2).mono ?_
        rintro e w6 ⟨A6, k6, n6, rfl, hn6, hR6, hb⟩
        obtain rfl : n6 = 0 := hn6
        have S6 := Lib.hid (S5.out.below hb)
        have M6 := Lib.hid (Nn.new (N := Nt.zero) (n := 0) (k := k6) rfl hR6)
        clear hb hR6 S5 N5
        simp only [Nt.zero]
        obtain ⟨b0, b1, b2, b3⟩ := M6.out.1.cells
        simp only [Nt.zero] at b0 b1 b2
        have g1 : (((n5 : Int) + 1) == ((n5 : Int) + 1)) = true := by simp
        clear hsl
        go_wp2_with fail
        refine (same_any 0 0 0 _ _ _ _ _ _ [] [] _ M6.out.2.2 (Rl.nil _ none) rfl rfl (by decide) rfl).mono ?_
        rintro e w7 ⟨rfl, hb⟩
        have S7 := Lib.hid ((S6.out.alloc _).below hb)
        clear hb S6 M6 b0 b1 b2 b3
        go_wp2_with fail
        go_ret
        exact ⟨rfl, S7.out.1⟩
      · obtain ⟨j, hj⟩ : ∃ j : Nat, j = k - 1 := ⟨_, rfl⟩
        have hjk : j < t.size := by omega
        have hsub : (k : Int) - 1 = (j : Int) := by omega
        have z1 : ((k : Int) == 0) = false := ne_beq (by omega)
        have z2 : (k == 0) = false := beq_eq_false_iff_ne.2 (by omega)
        obtain ⟨by0, hby⟩ : ∃ b : UInt8, b = t[j]'hjk := ⟨_, rfl⟩
        have hix : ∀ wx, (Instr.index 9 (.string t) (.int .i64 (j : Int))).run Tryd.prog wx = .ok (.int .u8 (by0.toNat : Int)) wx := fun wx => by rw [hby]; exact text_at t j hjk wx
        have hbt : (bl t)[k - 1]? = some by0 := by rw [← hj, hby]; exact bl_get t j hjk
        have hlast : ((printL ⟨c, h, x, ls⟩).take k).getLast? = some by0 := by
          rw [← HTb.out]; exact last_take (by omega) hbt
        have HLast := Lib.hid hlast
        clear hby hbt hlast hj
        by_cases hb10 : by0 = 10
        · obtain ⟨e1, e2, e3⟩ := parse_cut_end HF.out k hkp (by rw [HLast.out, hb10])
          rw [← HN5.out] at e1 e2 e3
          have HP : Hid (parseL (bl u) = (⟨c, h, x, ls.take (n5 - 1)⟩, 0, 0)) := by show _ = _; rw [HU.out]; exact e1
          have y1 : ((by0.toNat : Int) != 10) = false := by rw [hb10]; rfl
          have y2 : (by0.toNat != 10) = false := by rw [hb10]; rfl
          have e3' : n5 ≤ n := by rw [LX.out]; exact e3
          clear e1 e3 hb10
          go_wp2_with fail
          refine (parse_is u _ HP.out _ (by omega) S5.out.2).mono ?_
          rintro e w6 ⟨A6, k6, n6, rfl, hn6, hR6, hb⟩
          have S6 := Lib.hid (S5.out.below hb)
          have N6 := Lib.hid (N5.out.below hb)
          have M6 := Lib.hid (Nn.new (N := ⟨c, h, x, ls.take (n5 - 1)⟩) (n := n6) (k := k6) hn6 hR6)
          have LN6 := Lib.hid hn6
          clear hb hn6 hR6 S5 N5
          simp only
          obtain ⟨b0, b1, b2, b3⟩ := M6.out.1.cells
          obtain ⟨a0, a1, a2, a3⟩ := (N6.out.alloc (.cells #[.int .i64 c, .int .i64 h, .int .i64 x, .slice A6 n6 k6] 26)).1.cells
          simp only at b0 b1 b2 a0 a1 a2
          clear hsl
          go_wp2_with fail
          obtain ⟨W, hW⟩ : ∃ W, W = w6.alloc (.cells #[.int .i64 c, .int .i64 h, .int .i64 x, .slice A6 n6 k6] 26) := ⟨_, rfl⟩
          rw [← hW] at a0 a1 a2 a3 b0 b1 b2 b3 ⊢
          have HW := Lib.hid hW
          clear hW
          obtain ⟨i, hi⟩ : ∃ i : Nat, n5 = i + 1 := ⟨n5 - 1, by omega⟩
          have HI := Lib.hid hi
          have v1 : IntKind.i64.wrap ((n5 : Int) - 1) = (i : Int) := by rw [IntWalk.i64_in _ (by omega)]; omega
          have v2 : (n5 : Int) - 1 = (i : Int) := by omega
          have v3 : i ≤ n := by omega
          have v4 : (i : Int) ≤ (n : Int) := by omega
          have v5 : i ≤ cA := by omega
          have v6 : (i : Int) ≤ (cA : Int) := by omega
          obtain ⟨gA, oA, hAe, _⟩ := N6.out.2.2 (by show 0 < ls.length; rw [← LX.out]; omega)
          subst hAe
          have hsl2 : ∀ wx, (Instr.slice 24 (.slice (some ⟨gA, oA, none⟩) n cA) none (some (.int .i64 (i : Int))) none).run Tryd.prog wx = .ok (.slice (some ⟨gA, oA, none⟩) i cA) wx := fun wx => by first | (go_simp; done) | (go_simp; intro hh; omega)
          have hmin : min (i : Int) (n : Int) = (i : Int) := by omega
          have hwi : IntKind.i64.wrap (i : Int) = (i : Int) := IntWalk.i64_in _ (by omega)
          clear hi
          go_still_tail 24, (by kernel_rfl)
          change wpList _ _ _ _ _ W.drew
          go_wp2_with fail
          refine (same_any c h x _ _ _ _ _ _ (ls.take i) (ls.take i) _ ?_ ?_ ?_ ?_ ?_ rfl).mono ?_
          · have h1 := M6.out.2.2
            rw [← HW.out, show n5 - 1 = i by omega] at h1
            exact h1.below (below_drew W)
          · have h1 := ((N6.out.alloc (.cells #[.int .i64 c, .int .i64 h, .int .i64 x, .slice A6 n6 k6] 26)).2.2).take i
            rw [← HW.out] at h1
            exact h1.below (below_drew W)
          · rw [LN6.out, show n5 - 1 = i by omega]
          · rw [List.length_take, ← LX.out]; omega
          · rw [LN6.out, List.length_take, ← LX.out]; omega
          rintro e w7 ⟨rfl, hb⟩
          have S7 : Hid (Below w.heap.size w w7) := by
            have h1 := (S6.out.alloc (.cells #[.int .i64 c, .int .i64 h, .int .i64 x, .slice A6 n6 k6] 26)).1
            rw [← HW.out] at h1
            exact (h1.drew).trans (hb.mono h1.size)
          clear hb
          go_wp2_with fail
          go_ret
          exact ⟨rfl, S7.out⟩
        · have HP : Hid (parseL (bl u) = (Nt.zero, n5 + 1, 12)) := by
            show _ = _
            rw [HU.out, HN5.out]
            exact parse_cut_mid HF.out k hkp (by rw [HLast.out]; simpa using hb10)
          have y0 : by0.toNat ≠ 10 := fun e => hb10 (UInt8.toNat_inj.1 e)
          have y1 : ((by0.toNat : Int) != 10) = true := by simp; omega
          have y2 : (by0.toNat != 10) = true := by simpa using y0
          clear hb10 y0
          go_wp2_with fail
          refine (parse_is u _ HP.out _ (by omega) S5.out.2).mono ?_
          rintro e w6 ⟨A6, k6, n6, rfl, hn6, hR6, hb⟩
          obtain rfl : n6 = 0 := hn6
          have S6 := Lib.hid (S5.out.below hb)
          have M6 := Lib.hid (Nn.new (N := Nt.zero) (n := 0) (k := k6) rfl hR6)
          clear hb hR6 S5 N5
          simp only [Nt.zero]
          obtain ⟨b0, b1, b2, b3⟩ := M6.out.1.cells
          simp only [Nt.zero] at b0 b1 b2
          have g1 : (((n5 : Int) + 1) == ((n5 : Int) + 1)) = true := by simp
          clear hsl
          go_wp2_with fail
          refine (same_any 0 0 0 _ _ _ _ _ _ [] [] _ M6.out.2.2 (Rl.nil _ none) rfl rfl (by decide) rfl).mono ?_
          rintro e w7 ⟨rfl, hb⟩
          have S7 := Lib.hid ((S6.out.alloc _).below hb)
          clear hb S6 M6 b0 b1 b2 b3
          go_wp2_with fail
          go_ret
          exact ⟨rfl, S7.out.1⟩
  · go_wp2_with fail
    refine (great_yes c h x A cA n _ (by omega)).mono ?_
    rintro e w2 ⟨rfl, hb⟩
    have S2 := Lib.hid (S1.out.below hb)
    clear hb S1 N1 a0 a1 a2 a3
    go_wp2_with fail
    go_ret
    exact ⟨rfl, S2.out.1⟩

end Go.Proofs.YtmlflmlgjjjmfaaDoor
