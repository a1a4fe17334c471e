/-
  DescrPrints: a text that is a network's is that of what is got; else a line is told, and a zero network.
-/
import Derived.Test.YtmlflmlgjjjmfaaDoorRef3
import Derived.Test.YtmlflmlgjjjmfaaDoorLBack
namespace Go.Proofs.YtmlflmlgjjjmfaaDoor
open Go.RowKit

set_option maxHeartbeats 4000000 in
set_option maxRecDepth 100000 in
theorem law_prints (s : ByteArray) (w : World) (hL : Laid w) :
    Calls Tryd.prog 5 #[.string s] w fun e w' => e = .returned (.bool true) ∧ Below w.heap.size w w' := by
  have S0 := Lib.hid (Ctx.refl hL)
  clear hL
  go_enter Tryd.func5, Tryd.ntmps5
  go_wp2_with fail
  refine (head_any _ S0.out.2).mono ?_
  rintro e w1 ⟨rfl, hb⟩
  have S1 := Lib.hid (S0.out.below hb)
  clear hb S0
  by_cases hs : s.size ≤ 3000
  · have d0 : decide ((3000 : Int) < (s.size : Int)) = false := by simp; omega
    have d1 : decide (3000 < s.size) = false := by simp; omega
    obtain ⟨m, a, er, hp⟩ : ∃ m a er, parseL (bl s) = (m, a, er) := ⟨_, _, _, rfl⟩
    have HP := Lib.hid hp
    clear hp
    go_wp2_with fail
    refine (parse_is s _ HP.out _ (by omega) S1.out.2).mono ?_
    rintro e w2 ⟨A2, k2, n2, rfl, hn2, hR2, hb⟩
    have S2 := Lib.hid (S1.out.below hb)
    have M2 := Lib.hid (Nn.new (N := m) (n := n2) (k := k2) hn2 hR2)
    have LN2 := Lib.hid hn2
    clear hb hn2 hR2 S1
    simp only
    by_cases he : er = 0
    · subst he
      obtain ⟨e1, e2, e3⟩ := parse_ok HP.out
      subst e1
      have HF := Lib.hid e2
      have HQ := Lib.hid e3
      have hn3 : n2 ≤ 8 := by rw [LN2.out]; exact (form_parts e2).2.1
      clear e2 e3
      obtain ⟨a0, a1, a2, a3⟩ := M2.out.1.cells
      have la := M2.out.1.lt
      go_wp2_with fail
      refine (form_any m.c m.h m.x A2 k2 n2 m.ls _ M2.out.2.2 LN2.out (by omega)).mono ?_
      rintro e w3 ⟨rfl, hb⟩
      rw [show formB ⟨m.c, m.h, m.x, m.ls⟩ = true from HF.out]
      have S3 := Lib.hid ((S2.out.alloc _).below hb)
      have M3 := Lib.hid (M2.out.below hb)
      clear hb S2 M2 a0 a1 a2 a3 la
      obtain ⟨a0, a1, a2, a3⟩ := M3.out.1.cells
      go_wp2_with fail
      refine (print_any m.c m.h m.x A2 k2 n2 m.ls _ M3.out.2.2 LN2.out (by omega) S3.out.2).mono ?_
      rintro e w4 ⟨rfl, hb⟩
      rw [show printL ⟨m.c, m.h, m.x, m.ls⟩ = bl s from HQ.out, ba_bl]
      have S4 := Lib.hid (S3.out.below hb)
      clear hb S3 M3 a0 a1 a2 a3
      have hq : (s.toList == s.toList) = true := by simp
      go_wp2_with fail
      go_ret
      exact ⟨rfl, S4.out.1⟩
    · obtain ⟨e1, e2, e3, e4⟩ := parse_no HP.out he
      subst e1
      obtain rfl : n2 = 0 := LN2.out
      have d2 : (er == 0) = false := by simpa using he
      have d3 : (er != 0) = true := by simpa using he
      have E3 := Lib.hid e3
      clear e3
      simp only [Nt.zero]
      go_wp2_with fail
      refine (rlines_any s _ (by omega)).mono ?_
      rintro e w3 ⟨A3, k3, n3, rfl, hn3, hR3, hb, _⟩
      have S3 := Lib.hid ((S2.out.alloc _).below hb)
      have M3 := Lib.hid (M2.out.below hb)
      have e3 : a ≤ n3 + 1 := by rw [hn3]; exact E3.out
      have hn4 : n3 ≤ 100000 := by
        have h1 := cut_count 10 (bl s)
        have h2 := List.count_le_length (a := (10 : UInt8)) (l := bl s)
        rw [← size_bl] at h2
        omega
      clear hb S2 M2 hn3 hR3
      obtain ⟨a0, a1, a2, a3⟩ := M3.out.1.cells
      simp only [Nt.zero] at a0 a1 a2
      have g1 : decide ((1 : Int) ≤ (a : Int)) = true := by simp; omega
      have g2 : decide ((a : Int) ≤ (n3 : Int) + 1) = true := by simp; omega
      have g1' : decide (1 ≤ a) = true := by simp; omega
      go_wp2_with fail
      refine (same_any 0 0 0 _ _ _ _ _ _ [] [] _ M3.out.2.2 (Rl.nil _ none) rfl rfl (by decide) rfl).mono ?_
      rintro e w4 ⟨rfl, hb⟩
      have S4 := Lib.hid (S3.out.below hb)
      clear hb S3 M3 a0 a1 a2 a3
      rcases e4 with ⟨rfl, e5⟩ | ⟨rfl, e5⟩
      · have g3 : decide ((9 : Int) < (a : Int)) = true := by simp; omega
        have g3' : decide (9 < a) = true := by simp; omega
        go_wp2_with fail
        go_ret
        exact ⟨rfl, S4.out.1⟩
      · have g4 : decide ((a : Int) ≤ 9) = true := by simp; omega
        have g4' : decide (a ≤ 9) = true := by simp; omega
        go_wp2_with fail
        go_ret
        exact ⟨rfl, S4.out.1⟩
  · have d0 : decide ((3000 : Int) < (s.size : Int)) = true := by simp; omega
    have d1 : decide (3000 < s.size) = true := by simp; omega
    go_wp2_with fail
    go_ret
    exact ⟨rfl, S1.out.1⟩

end Go.Proofs.YtmlflmlgjjjmfaaDoor
