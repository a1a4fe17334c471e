/-
  DescrTells: whether any network has a form, its text, and what any text is, are the document's.
-/
import Derived.Test.YtmlflmlgjjjmfaaDoorRPrint2
import Derived.Test.YtmlflmlgjjjmfaaDoorLBack
namespace Go.Proofs.YtmlflmlgjjjmfaaDoor
open Go.RowKit

theorem rparse_is (s : ByteArray) (p : Nt × Nat × Int) (hp : parseL (bl s) = p) (w : World) (hs : s.size ≤ 100000) : Calls Tryd.prog 12 #[.string s] w (ParseTo p w) := by
  subst hp; exact rparse_any s w hs
theorem parse_small {s : List UInt8} {m : Nt} {a : Nat} {e : Int} (h : parseL s = (m, a, e)) : m.ls.length ≤ 8 := by
  by_cases he : e = 0
  · subst he
    exact (form_parts (parse_ok h).2.1).2.1
  · rw [(parse_no h he).1]; exact Nat.zero_le _

set_option maxHeartbeats 8000000 in
set_option maxRecDepth 100000 in
theorem law_tells (c h x : Int) (A : Option Addr) (cA n : Nat) (ls : List Ly) (s : ByteArray) (w : World) (hx : Rl w A ls) (ln : n = ls.length) (hL : Laid w) :
    Calls Tryd.prog 3 #[.agg #[.int .i64 c, .int .i64 h, .int .i64 x, .slice A n cA], .string s] w fun e w' => e = .returned (.bool true) ∧ Below w.heap.size w w' := by
  have S0 := Lib.hid ((Ctx.refl hL).alloc (.cells #[.int .i64 c, .int .i64 h, .int .i64 x, .slice A n cA] 26))
  have N0 := Lib.hid (Nn.new (N := ⟨c, h, x, ls⟩) (n := n) (k := cA) ln hx)
  have LX := Lib.hid ln
  clear hx ln hL
  go_enter Tryd.func3, Tryd.ntmps3
  go_wp2_with fail
  refine (head_any _ S0.out.2).mono ?_
  rintro e w1 ⟨rfl, hb⟩
  have S1 := Lib.hid (S0.out.below hb)
  have N1 := Lib.hid (N0.out.below hb)
  clear hb S0 N0
  obtain ⟨a0, a1, a2, a3⟩ := N1.out.1.cells
  simp only at a0 a1 a2
  by_cases hn : n ≤ 60
  · go_wp2_with fail
    refine (great_no c h x A cA n _ hn).mono ?_
    rintro e w2 ⟨rfl, hb⟩
    have S2 := Lib.hid (S1.out.below hb)
    have N2 := Lib.hid (N1.out.below hb)
    clear hb S1 N1 a0 a1 a2 a3
    by_cases hs : s.size ≤ 3000
    · have d0 : decide ((3000 : Int) < (s.size : Int)) = false := by simp; omega
      have d1 : decide (3000 < s.size) = false := by simp; omega
      obtain ⟨m, a, er, hp⟩ : ∃ m a er, parseL (bl s) = (m, a, er) := ⟨_, _, _, rfl⟩
      have HP := Lib.hid hp
      have HM8 := Lib.hid (parse_small hp)
      clear hp
      go_wp2_with fail
      refine (parse_is s _ HP.out _ (by omega) S2.out.2).mono ?_
      rintro e w3 ⟨A3, k3, n3, rfl, hn3, hR3, hb⟩
      have S3 := Lib.hid (S2.out.below hb)
      have N3 := Lib.hid (N2.out.below hb)
      have M3 := Lib.hid (Nn.new (N := m) (n := n3) (k := k3) hn3 hR3)
      have LN3 := Lib.hid hn3
      clear hb hn3 hR3 S2 N2
      simp only
      go_wp2_with fail
      refine (rparse_is s _ HP.out _ (by omega)).mono ?_
      rintro e w4 ⟨A4, k4, n4, rfl, hn4, hR4, hb⟩
      have S4 := Lib.hid (((S3.out.alloc _).below hb).alloc (.cells #[.int .i64 m.c, .int .i64 m.h, .int .i64 m.x, .slice A4 n4 k4] 26))
      have N4 := Lib.hid (((N3.out.alloc _).below hb).alloc (.cells #[.int .i64 m.c, .int .i64 m.h, .int .i64 m.x, .slice A4 n4 k4] 26))
      have M4 := Lib.hid ((M3.out.below hb).alloc (.cells #[.int .i64 m.c, .int .i64 m.h, .int .i64 m.x, .slice A4 n4 k4] 26))
      have O4 := Lib.hid (Nn.new (N := m) (n := n4) (k := k4) hn4 hR4)
      have LN4 := Lib.hid hn4
      have hn38 : n3 ≤ 8 := by rw [LN3.out]; exact HM8.out
      clear hb hn4 hR4 S3 N3 M3
      simp only
      obtain ⟨W, hW⟩ : ∃ W, W = w4.alloc (.cells #[.int .i64 m.c, .int .i64 m.h, .int .i64 m.x, .slice A4 n4 k4] 26) := ⟨_, rfl⟩
      go_wp2_with fail
      rw [← hW] at S4 N4 M4 O4 ⊢
      clear hW
      obtain ⟨a0, a1, a2, a3⟩ := N4.out.1.cells
      obtain ⟨b0, b1, b2, b3⟩ := M4.out.1.cells
      obtain ⟨d0', d1', d2', d3'⟩ := O4.out.1.cells
      have hla := N4.out.1.lt
      have hlb := M4.out.1.lt
      have hld := O4.out.1.lt
      simp only at a0 a1 a2 b0 b1 b2 d0' d1' d2'
      have HC0 : Hid (Below W.heap.size W W.drew) := below_drew W
      obtain ⟨fb, hfb⟩ : ∃ fb, fb = formB ⟨c, h, x, ls⟩ := ⟨_, rfl⟩
      obtain ⟨pt, hpt⟩ : ∃ pt, pt = ba (printL ⟨c, h, x, ls⟩) := ⟨_, rfl⟩
      have HFB := Lib.hid hfb
      have HPT := Lib.hid hpt
      clear hfb hpt
      have HRn := Lib.hid (show Rl W A ls from N4.out.2.2)
      have HRa := Lib.hid (show Rl W A3 m.ls from M4.out.2.2)
      have HRb := Lib.hid (show Rl W A4 m.ls from O4.out.2.2)
      have HLd := Lib.hid (show Laid W from S4.out.2)
      have tok1 : True := trivial
      have g1 : (fb == fb) = true := by simp
      have g2 : (pt.toList == pt.toList) = true := by simp
      have g3 : ((a : Int) == (a : Int)) = true := by simp
      have g4 : (er == er) = true := by simp
      go_region_held3 (fun w' => w'.cell? ⟨w.heap.size, 0, none⟩ = some (.int .i64 c) ∧ w'.cell? ⟨w.heap.size, 1, none⟩ = some (.int .i64 h) ∧ w'.cell? ⟨w.heap.size, 2, none⟩ = some (.int .i64 x) ∧ w'.cell? ⟨w.heap.size, 3, none⟩ = some (.slice A n cA) ∧ w'.cell? ⟨w3.heap.size, 0, none⟩ = some (.int .i64 m.c) ∧ w'.cell? ⟨w3.heap.size, 1, none⟩ = some (.int .i64 m.h) ∧ w'.cell? ⟨w3.heap.size, 2, none⟩ = some (.int .i64 m.x) ∧ w'.cell? ⟨w3.heap.size, 3, none⟩ = some (.slice A3 n3 k3) ∧ w'.cell? ⟨w4.heap.size, 0, none⟩ = some (.int .i64 m.c) ∧ w'.cell? ⟨w4.heap.size, 1, none⟩ = some (.int .i64 m.h) ∧ w'.cell? ⟨w4.heap.size, 2, none⟩ = some (.int .i64 m.x) ∧ w'.cell? ⟨w4.heap.size, 3, none⟩ = some (.slice A4 n4 k4))
        (first | exact ⟨qa0, qa1, qa2, qa3, qb0, qb1, qb2, qb3, qd0, qd1, qd2, qd3⟩ | go_keep)
        (first
        | ((have _t := tok1; clear tok1; go_at_call 13; (with_reducible refine (form_any c h x A cA n ls _ (HRn.out.below HC0.out) LX.out (by omega)).mono ?_); rintro e v1 ⟨rfl, hb1⟩
            rw [← HFB.out]
            have HC1 := Lib.hid (HC0.out.trans (hb1.mono HC0.out.size))
            have qa0 := (HC1.out.cell (p := ⟨w.heap.size, 0, none⟩) hla).trans a0
            have qa1 := (HC1.out.cell (p := ⟨w.heap.size, 1, none⟩) hla).trans a1
            have qa2 := (HC1.out.cell (p := ⟨w.heap.size, 2, none⟩) hla).trans a2
            have qa3 := (HC1.out.cell (p := ⟨w.heap.size, 3, none⟩) hla).trans a3
            have qb0 := (HC1.out.cell (p := ⟨w3.heap.size, 0, none⟩) hlb).trans b0
            have qb1 := (HC1.out.cell (p := ⟨w3.heap.size, 1, none⟩) hlb).trans b1
            have qb2 := (HC1.out.cell (p := ⟨w3.heap.size, 2, none⟩) hlb).trans b2
            have qb3 := (HC1.out.cell (p := ⟨w3.heap.size, 3, none⟩) hlb).trans b3
            have qd0 := (HC1.out.cell (p := ⟨w4.heap.size, 0, none⟩) hld).trans d0'
            have qd1 := (HC1.out.cell (p := ⟨w4.heap.size, 1, none⟩) hld).trans d1'
            have qd2 := (HC1.out.cell (p := ⟨w4.heap.size, 2, none⟩) hld).trans d2'
            have qd3 := (HC1.out.cell (p := ⟨w4.heap.size, 3, none⟩) hld).trans d3'
            have tok2 : True := trivial
            clear hb1))
        | ((have _t := tok2; clear tok2; go_at_call 14; (with_reducible refine (rform_any c h x A cA n ls _ (HRn.out.below HC1.out) LX.out (by omega)).mono ?_); rintro e v2 ⟨rfl, hb2⟩
            rw [← HFB.out]
            have HC2 := Lib.hid (HC1.out.trans (hb2.mono HC1.out.size))
            have qa0 := (HC2.out.cell (p := ⟨w.heap.size, 0, none⟩) hla).trans a0
            have qa1 := (HC2.out.cell (p := ⟨w.heap.size, 1, none⟩) hla).trans a1
            have qa2 := (HC2.out.cell (p := ⟨w.heap.size, 2, none⟩) hla).trans a2
            have qa3 := (HC2.out.cell (p := ⟨w.heap.size, 3, none⟩) hla).trans a3
            have qb0 := (HC2.out.cell (p := ⟨w3.heap.size, 0, none⟩) hlb).trans b0
            have qb1 := (HC2.out.cell (p := ⟨w3.heap.size, 1, none⟩) hlb).trans b1
            have qb2 := (HC2.out.cell (p := ⟨w3.heap.size, 2, none⟩) hlb).trans b2
            have qb3 := (HC2.out.cell (p := ⟨w3.heap.size, 3, none⟩) hlb).trans b3
            have qd0 := (HC2.out.cell (p := ⟨w4.heap.size, 0, none⟩) hld).trans d0'
            have qd1 := (HC2.out.cell (p := ⟨w4.heap.size, 1, none⟩) hld).trans d1'
            have qd2 := (HC2.out.cell (p := ⟨w4.heap.size, 2, none⟩) hld).trans d2'
            have qd3 := (HC2.out.cell (p := ⟨w4.heap.size, 3, none⟩) hld).trans d3'
            have tok3 : True := trivial
            clear hb2))
        | ((have _t := tok3; clear tok3; go_at_call 15; (with_reducible refine (print_any c h x A cA n ls _ (HRn.out.below HC2.out) LX.out (by omega) (HLd.out.below HC2.out)).mono ?_); rintro e v3 ⟨rfl, hb3⟩
            rw [← HPT.out]
            have HC3 := Lib.hid (HC2.out.trans (hb3.mono HC2.out.size))
            have qa0 := (HC3.out.cell (p := ⟨w.heap.size, 0, none⟩) hla).trans a0
            have qa1 := (HC3.out.cell (p := ⟨w.heap.size, 1, none⟩) hla).trans a1
            have qa2 := (HC3.out.cell (p := ⟨w.heap.size, 2, none⟩) hla).trans a2
            have qa3 := (HC3.out.cell (p := ⟨w.heap.size, 3, none⟩) hla).trans a3
            have qb0 := (HC3.out.cell (p := ⟨w3.heap.size, 0, none⟩) hlb).trans b0
            have qb1 := (HC3.out.cell (p := ⟨w3.heap.size, 1, none⟩) hlb).trans b1
            have qb2 := (HC3.out.cell (p := ⟨w3.heap.size, 2, none⟩) hlb).trans b2
            have qb3 := (HC3.out.cell (p := ⟨w3.heap.size, 3, none⟩) hlb).trans b3
            have qd0 := (HC3.out.cell (p := ⟨w4.heap.size, 0, none⟩) hld).trans d0'
            have qd1 := (HC3.out.cell (p := ⟨w4.heap.size, 1, none⟩) hld).trans d1'
            have qd2 := (HC3.out.cell (p := ⟨w4.heap.size, 2, none⟩) hld).trans d2'
            have qd3 := (HC3.out.cell (p := ⟨w4.heap.size, 3, none⟩) hld).trans d3'
            have tok4 : True := trivial
            clear hb3))
        | ((have _t := tok4; clear tok4; go_at_call 16; (with_reducible refine (rprint_any c h x A cA n ls _ (HRn.out.below HC3.out) LX.out (by omega)).mono ?_); rintro e v4 ⟨rfl, hb4⟩
            rw [← HPT.out]
            have HC4 := Lib.hid (HC3.out.trans (hb4.mono HC3.out.size))
            have qa0 := (HC4.out.cell (p := ⟨w.heap.size, 0, none⟩) hla).trans a0
            have qa1 := (HC4.out.cell (p := ⟨w.heap.size, 1, none⟩) hla).trans a1
            have qa2 := (HC4.out.cell (p := ⟨w.heap.size, 2, none⟩) hla).trans a2
            have qa3 := (HC4.out.cell (p := ⟨w.heap.size, 3, none⟩) hla).trans a3
            have qb0 := (HC4.out.cell (p := ⟨w3.heap.size, 0, none⟩) hlb).trans b0
            have qb1 := (HC4.out.cell (p := ⟨w3.heap.size, 1, none⟩) hlb).trans b1
            have qb2 := (HC4.out.cell (p := ⟨w3.heap.size, 2, none⟩) hlb).trans b2
            have qb3 := (HC4.out.cell (p := ⟨w3.heap.size, 3, none⟩) hlb).trans b3
            have qd0 := (HC4.out.cell (p := ⟨w4.heap.size, 0, none⟩) hld).trans d0'
            have qd1 := (HC4.out.cell (p := ⟨w4.heap.size, 1, none⟩) hld).trans d1'
            have qd2 := (HC4.out.cell (p := ⟨w4.heap.size, 2, none⟩) hld).trans d2'
            have qd3 := (HC4.out.cell (p := ⟨w4.heap.size, 3, none⟩) hld).trans d3'
            have tok5 : True := trivial
            clear hb4))
        | ((have _t := tok5; clear tok5; go_at_call 17; (with_reducible refine (same_any m.c m.h m.x A3 A4 k3 k4 n3 n4 m.ls m.ls _ (HRa.out.below HC4.out) (HRb.out.below HC4.out) LN3.out LN4.out (by omega) rfl).mono ?_); rintro e v5 ⟨rfl, hb5⟩
            have HC5 := Lib.hid (HC4.out.trans (hb5.mono HC4.out.size))
            have qa0 := (HC5.out.cell (p := ⟨w.heap.size, 0, none⟩) hla).trans a0
            have qa1 := (HC5.out.cell (p := ⟨w.heap.size, 1, none⟩) hla).trans a1
            have qa2 := (HC5.out.cell (p := ⟨w.heap.size, 2, none⟩) hla).trans a2
            have qa3 := (HC5.out.cell (p := ⟨w.heap.size, 3, none⟩) hla).trans a3
            have qb0 := (HC5.out.cell (p := ⟨w3.heap.size, 0, none⟩) hlb).trans b0
            have qb1 := (HC5.out.cell (p := ⟨w3.heap.size, 1, none⟩) hlb).trans b1
            have qb2 := (HC5.out.cell (p := ⟨w3.heap.size, 2, none⟩) hlb).trans b2
            have qb3 := (HC5.out.cell (p := ⟨w3.heap.size, 3, none⟩) hlb).trans b3
            have qd0 := (HC5.out.cell (p := ⟨w4.heap.size, 0, none⟩) hld).trans d0'
            have qd1 := (HC5.out.cell (p := ⟨w4.heap.size, 1, none⟩) hld).trans d1'
            have qd2 := (HC5.out.cell (p := ⟨w4.heap.size, 2, none⟩) hld).trans d2'
            have qd3 := (HC5.out.cell (p := ⟨w4.heap.size, 3, none⟩) hld).trans d3'
            have tok6 : True := trivial
            clear hb5))
        | fail)
      go_wp2_with fail
      go_ret
      exact ⟨rfl, S4.out.1.trans (HC5.out.mono S4.out.1.size)⟩
    · have d0 : decide ((3000 : Int) < (s.size : Int)) = true := by simp; omega
      have d1 : decide (3000 < s.size) = true := by simp; omega
      go_wp2_with fail
      go_ret
      exact ⟨rfl, S2.out.1⟩
  · go_wp2_with fail
    refine (great_yes c h x A cA n _ (by omega)).mono ?_
    rintro e w2 ⟨rfl, hb⟩
    have S2 := Lib.hid (S1.out.below hb)
    clear hb S1 N1 a0 a1 a2 a3
    go_wp2_with fail
    go_ret
    exact ⟨rfl, S2.out.1⟩

end Go.Proofs.YtmlflmlgjjjmfaaDoor
