/-
  DescrBack: a network that has a form is got from its text; one that has none has no text.
-/
import Derived.Test.YtmlflmlgjjjmfaaDoorHead
namespace Go.Proofs.YtmlflmlgjjjmfaaDoor
open Go.RowKit

theorem print_len (n : Nt) : (printL n).length ≤ 400 := by
  unfold printL
  split
  · rename_i h
    have h1 := bulk_net n
    have h2 := (form_parts h).2.1
    rw [bulk_lay]; omega
  · simp
theorem print_not {n : Nt} (h : formB n = false) : printL n = [] := by unfold printL; rw [h]; rfl

set_option maxHeartbeats 4000000 in
set_option maxRecDepth 100000 in
theorem law_back (c h x : Int) (A : Option Addr) (cA n : Nat) (ls : List Ly) (w : World) (hx : Rl w A ls) (ln : n = ls.length) (hL : Laid w) :
    Calls Tryd.prog 4 #[.agg #[.int .i64 c, .int .i64 h, .int .i64 x, .slice A n cA]] w fun e w' => e = .returned (.bool true) ∧ Below w.heap.size w w' := by
  have S0 := Lib.hid ((Ctx.refl hL).alloc (.cells #[.int .i64 c, .int .i64 h, .int .i64 x, .slice A n cA] 26))
  have N0 := Lib.hid (Nn.new (N := ⟨c, h, x, ls⟩) (n := n) (k := cA) ln hx)
  have LX := Lib.hid ln
  clear hx ln hL
  go_enter Tryd.func4, Tryd.ntmps4
  go_wp2_with fail
  refine (head_any _ S0.out.2).mono ?_
  rintro e w1 ⟨rfl, hb⟩
  have S1 := Lib.hid (S0.out.below hb)
  have N1 := Lib.hid (N0.out.below hb)
  clear hb S0 N0
  obtain ⟨a0, a1, a2, a3⟩ := N1.out.1.cells
  simp only at a0 a1 a2
  by_cases hn : n ≤ 60
  · go_wp2_with fail
    refine (great_no c h x A cA n _ hn).mono ?_
    rintro e w2 ⟨rfl, hb⟩
    have S2 := Lib.hid (S1.out.below hb)
    have N2 := Lib.hid (N1.out.below hb)
    clear hb S1 N1 a0 a1 a2 a3
    obtain ⟨a0, a1, a2, a3⟩ := N2.out.1.cells
    simp only at a0 a1 a2
    go_wp2_with fail
    refine (print_any c h x A cA n ls _ N2.out.2.2 LX.out (by omega) S2.out.2).mono ?_
    rintro e w3 ⟨rfl, hb⟩
    have S3 := Lib.hid (S2.out.below hb)
    have N3 := Lib.hid (N2.out.below hb)
    clear hb S2 N2 a0 a1 a2 a3
    obtain ⟨t, HT⟩ : ∃ t, Hid (t = ba (printL ⟨c, h, x, ls⟩)) := ⟨_, rfl⟩
    have HTb : Hid (bl t = printL ⟨c, h, x, ls⟩) := by show _ = _; rw [HT.out, bl_ba]
    have hts : t.size ≤ 100000 := by rw [size_bl, HTb.out]; have := print_len ⟨c, h, x, ls⟩; omega
    rw [← HT.out]
    cases hf : formB ⟨c, h, x, ls⟩
    · have HF := Lib.hid hf
      have hte : bl t = [] := by rw [HTb.out]; exact print_not hf
      have HP : Hid (parseL (bl t) = (Nt.zero, 1, 12)) := by show _ = _; rw [hte]; exact parse_nil
      have hte2 : (bl t == []) = true := by rw [hte]; rfl
      obtain ⟨d1, d2, d3⟩ := emp_facts hte2
      clear hf hte hte2
      go_wp2_with fail
      refine (parse_is t _ HP.out _ hts S3.out.2).mono ?_
      rintro e w4 ⟨A4, k4, n4, rfl, hn4, _, hb⟩
      obtain rfl : n4 = 0 := hn4
      have S4 := Lib.hid (S3.out.below hb)
      have N4 := Lib.hid (N3.out.below hb)
      clear hb S3 N3
      simp only [Nt.zero]
      obtain ⟨a0, a1, a2, a3⟩ := N4.out.1.cells
      have la := N4.out.1.lt
      simp only at a0 a1 a2
      go_wp2_with fail
      refine (form_any c h x A cA n ls _ (N4.out.alloc _).2.2 LX.out (by omega)).mono ?_
      rintro e w5 ⟨rfl, hb⟩
      rw [HF.out]
      have S5 := Lib.hid ((S4.out.alloc _).below hb)
      clear hb S4 N4 a0 a1 a2 a3 la
      go_wp2_with fail
      go_ret
      exact ⟨rfl, S5.out.1⟩
    · have HF := Lib.hid hf
      have HP : Hid (parseL (bl t) = (⟨c, h, x, ls⟩, 0, 0)) := by show _ = _; rw [HTb.out]; exact parse_print hf
      clear hf
      go_wp2_with fail
      refine (parse_is t _ HP.out _ hts S3.out.2).mono ?_
      rintro e w4 ⟨A4, k4, n4, rfl, hn4, hR4, hb⟩
      have S4 := Lib.hid (S3.out.below hb)
      have N4 := Lib.hid (N3.out.below hb)
      have M4 := Lib.hid (Nn.new (N := ⟨c, h, x, ls⟩) (n := n4) (k := k4) hn4 hR4)
      have LN4 := Lib.hid hn4
      clear hb S3 N3 hn4 hR4
      simp only
      obtain ⟨a0, a1, a2, a3⟩ := N4.out.1.cells
      have la := N4.out.1.lt
      simp only at a0 a1 a2
      go_wp2_with fail
      refine (form_any c h x A cA n ls _ (N4.out.alloc _).2.2 LX.out (by omega)).mono ?_
      rintro e w5 ⟨rfl, hb⟩
      rw [HF.out]
      have S5 := Lib.hid ((S4.out.alloc _).below hb)
      have N5 := Lib.hid ((N4.out.alloc _).below hb)
      have M5 := Lib.hid (M4.out.below hb)
      clear hb S4 N4 a0 a1 a2 a3 la M4
      obtain ⟨a0, a1, a2, a3⟩ := N5.out.1.cells
      obtain ⟨b0, b1, b2, b3⟩ := M5.out.1.cells
      simp only at a0 a1 a2 b0 b1 b2
      go_wp2_with fail
      refine (same_any c h x _ _ _ _ _ _ ls ls _ M5.out.2.2 N5.out.2.2 LN4.out LX.out (by rw [LN4.out]; show ls.length ≤ 1000; have := LX.out; omega) rfl).mono ?_
      rintro e w6 ⟨rfl, hb⟩
      have S6 := Lib.hid (S5.out.below hb)
      clear hb S5 N5 a0 a1 a2 a3 b0 b1 b2 b3 M5
      go_wp2_with fail
      go_ret
      exact ⟨rfl, S6.out.1⟩
  · go_wp2_with fail
    refine (great_yes c h x A cA n _ (by omega)).mono ?_
    rintro e w2 ⟨rfl, hb⟩
    have S2 := Lib.hid (S1.out.below hb)
    clear hb S1 N1 a0 a1 a2 a3
    go_wp2_with fail
    go_ret
    exact ⟨rfl, S2.out.1⟩

end Go.Proofs.YtmlflmlgjjjmfaaDoor
