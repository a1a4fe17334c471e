/-
  DescrFull: with a line more a network has a layer more, if there is room; else that line is told, whatever it is.
-/
import Derived.Test.YtmlflmlgjjjmfaaDoorAppend
namespace Go.Proofs.YtmlflmlgjjjmfaaDoor
open Go.RowKit

def QB (w : World) (g : Nat) : Prop := w.heap[g]? = some (.cells #[.int .i64 2, .int .i64 0, .int .i64 0, .int .i64 0] 42 (0, 0))
theorem QB.alloc {w : World} {g : Nat} (h : QB w g) (o : Obj) : QB (w.alloc o) g := (Lib.alloc_old w o g (Array.getElem?_eq_some_iff.1 h).1).trans h
theorem qb_new (w : World) : QB (w.alloc (.cells #[.int .i64 2, .int .i64 0, .int .i64 0, .int .i64 0] 42)) w.heap.size := heap_alloc_new w _
theorem qb_new2 (w : World) (o : Obj) : QB ((w.alloc o).alloc (.cells #[.int .i64 2, .int .i64 0, .int .i64 0, .int .i64 0] 42)) (w.heap.size + 1) := two_new w o _
theorem rl_q {w : World} {g : Nat} (h : QB w g) : Rl w (some ⟨g, 0, none⟩) [⟨2, 0, 0, 0⟩] := fun _ =>
  ⟨g, 0, rfl, (Array.getElem?_eq_some_iff.1 h).1, fun j hj => by
    match j, hj with
    | 0, _ =>
      unfold LyAt
      rw [Lib.cell_of_heap h, Lib.cell_of_heap h, Lib.cell_of_heap h, Lib.cell_of_heap h]
      exact ⟨rfl, rfl, rfl, rfl⟩⟩
theorem own42_ne {w : World} {B n z T : Nat} {v : Value} {xs : List Value} {cs : Array Value} (h : w.ownsRow B 42 4 v n xs) (hz : w.heap[z]? = some (.cells cs T (0, 0))) (hT : T ≠ 42) : some z ≠ v.ownBlock := fun he => by
  rcases h.2 with ⟨rfl, _⟩ | ⟨g, cap, cur, rfl, _, hh, _⟩
  · simp [Value.ownBlock] at he
  · have : z = g := by simpa [Value.ownBlock] using he
    subst this
    rw [hh] at hz
    cases hz
    exact hT rfl
theorem nb_grow {w w' : World} {B n z : Nat} {v u : Value} {xs : List Value} {c h x : Int} (hg : w.grownBy w' v.ownBlock) (ho : w.ownsRow B 42 4 v n xs) (hz : NB w z c h x u) : NB w' z c h x u :=
  (hg.block z hz.lt (own42_ne ho hz (by decide))).trans hz
theorem qb_grow {w w' : World} {g e : Nat} {k : Nat} (hg : w.grownBy w' (Value.slice (some ⟨e, 0, none⟩) 0 k).ownBlock) (hq : QB w g) (hne : g ≠ e) : QB w' g :=
  (hg.block g (Array.getElem?_eq_some_iff.1 hq).1 (by simp [Value.ownBlock]; exact hne)).trans hq
theorem NB.set4 {w : World} {b : Nat} {c h x c' h' x' : Int} {v v' : Value} (H : NB w b c h x v) :
    NB ((((w.setCell ⟨b, 0, none⟩ (.int .i64 c')).setCell ⟨b, 1, none⟩ (.int .i64 h')).setCell ⟨b, 2, none⟩ (.int .i64 x')).setCell ⟨b, 3, none⟩ v') b c' h' x' v' :=
  Lib.heap_setCell_same (i := 3) (Lib.heap_setCell_same (i := 2) (Lib.heap_setCell_same (i := 1) (Lib.heap_setCell_same (i := 0) H _) _) _) _
/-- What is left of a network that was put together. -/
def Made (W V : World) (z : Nat) (c h x : Int) (A : Option Addr) (m k : Nat) (ls : List Ly) : Prop := Below W.heap.size W V ∧ NB V z c h x (.slice A m k) ∧ Rl V A ls
theorem made_set {W w9 : World} {z : Nat} {c h x : Int} {A : Option Addr} {m k : Nat} {ls : List Ly} (hb : Below W.heap.size W w9) (hz : W.heap.size ≤ z) (ho : w9.ownsRow W.heap.size 42 4 (.slice A m k) m (lcells ls)) (hm : m = ls.length) (hn : NB w9 z 0 0 0 (.slice none 0 0)) :
    Made W ((((w9.setCell ⟨z, 0, none⟩ (.int .i64 c)).setCell ⟨z, 1, none⟩ (.int .i64 h)).setCell ⟨z, 2, none⟩ (.int .i64 x)).setCell ⟨z, 3, none⟩ (.slice A m k)) z c h x A m k ls := by
  refine ⟨(((hb.setCell (p := ⟨z, 0, none⟩) hz _).setCell (p := ⟨z, 1, none⟩) hz _).setCell (p := ⟨z, 2, none⟩) hz _).setCell (p := ⟨z, 3, none⟩) hz _, hn.set4, ?_⟩
  subst hm
  have hne := own42_ne ho hn (by decide)
  have h2 : (((((w9.setCell ⟨z, 0, none⟩ (.int .i64 c)).setCell ⟨z, 1, none⟩ (.int .i64 h)).setCell ⟨z, 2, none⟩ (.int .i64 x)).setCell ⟨z, 3, none⟩ (.slice A ls.length k))).ownsRow W.heap.size 42 4 (.slice A ls.length k) ls.length (lcells ls) := by
    refine ⟨ho.1, ?_⟩
    rcases ho.2 with h0 | ⟨g, cap, cur, hv, hg, hh, rest⟩
    · exact .inl h0
    · refine .inr ⟨g, cap, cur, hv, hg, ?_, rest⟩
      have hgz : g ≠ z := fun e => hne (by rw [hv, e]; rfl)
      rw [Below.heap_setCell _ _ _ _ (by show g ≠ z; exact hgz), Below.heap_setCell _ _ _ _ (by show g ≠ z; exact hgz), Below.heap_setCell _ _ _ _ (by show g ≠ z; exact hgz), Below.heap_setCell _ _ _ _ (by show g ≠ z; exact hgz)]
      exact hh
  obtain ⟨A', k', hv, hR⟩ := own_rl h2
  cases hv
  exact hR
theorem made_new {W w9 : World} {c h x : Int} {A : Option Addr} {m k : Nat} {ls : List Ly} (hb : Below W.heap.size W w9) (ho : w9.ownsRow W.heap.size 42 4 (.slice A m k) m (lcells ls)) (hm : m = ls.length) :
    Made W (w9.alloc (.cells #[.int .i64 c, .int .i64 h, .int .i64 x, .slice A m k] 26)) w9.heap.size c h x A m k ls := by
  refine ⟨hb.alloc hb.size _, NB.new _ _ _ _ _, ?_⟩
  subst hm
  obtain ⟨A', k', hv, hR⟩ := own_rl ho
  cases hv
  exact hR.alloc _

set_option maxHeartbeats 100000000 in
set_option maxRecDepth 100000 in
theorem law_full (c h x : Int) (A : Option Addr) (cA n : Nat) (ls : List Ly) (s : ByteArray) (w : World) (hx : Rl w A ls) (ln : n = ls.length) (hL : Laid w) :
    Calls Tryd.prog 7 #[.agg #[.int .i64 c, .int .i64 h, .int .i64 x, .slice A n cA], .string s] w fun e w' => e = .returned (.bool true) ∧ Below w.heap.size w w' := by
  have S0 := Lib.hid ((Ctx.refl hL).alloc (.cells #[.int .i64 c, .int .i64 h, .int .i64 x, .slice A n cA] 26))
  have N0 := Lib.hid (Nn.new (N := ⟨c, h, x, ls⟩) (n := n) (k := cA) ln hx)
  have LX := Lib.hid ln
  clear hx ln hL
  go_enter Tryd.func7, Tryd.ntmps7
  go_wp2_with fail
  refine (head_any _ S0.out.2).mono ?_
  rintro e w1 ⟨rfl, hb⟩
  have S1 := Lib.hid (S0.out.below hb)
  have N1 := Lib.hid (N0.out.below hb)
  clear hb S0 N0
  obtain ⟨a0, a1, a2, a3⟩ := N1.out.1.cells
  simp only at a0 a1 a2
  by_cases hn : n ≤ 60
  · go_wp2_with fail
    refine (great_no c h x A cA n _ hn).mono ?_
    rintro e w2 ⟨rfl, hb⟩
    have S2 := Lib.hid (S1.out.below hb)
    have N2 := Lib.hid (N1.out.below hb)
    clear hb S1 N1 a0 a1 a2 a3
    obtain ⟨a0, a1, a2, a3⟩ := N2.out.1.cells
    simp only at a0 a1 a2
    go_wp2_with fail
    refine (form_any c h x A cA n ls _ N2.out.2.2 LX.out (by omega)).mono ?_
    rintro e w3 ⟨rfl, hb⟩
    have S3 := Lib.hid (S2.out.below hb)
    have N3 := Lib.hid (N2.out.below hb)
    clear hb S2 N2 a0 a1 a2 a3
    obtain ⟨a0, a1, a2, a3⟩ := N3.out.1.cells
    simp only at a0 a1 a2
    cases hf : formB ⟨c, h, x, ls⟩
    · clear hf
      go_wp2_with fail
      go_ret
      exact ⟨rfl, S3.out.1⟩
    · have HF := Lib.hid hf
      clear hf
      by_cases hss : s.size ≤ 900
      · have d0 : decide ((900 : Int) < (s.size : Int)) = false := by simp; omega
        have d1 : decide (900 < s.size) = false := by simp; omega
        go_wp2_with fail
        refine (print_any c h x A cA n ls _ N3.out.2.2 LX.out (by omega) S3.out.2).mono ?_
        rintro e w4 ⟨rfl, hb⟩
        have S4 := Lib.hid (S3.out.below hb)
        have N4 := Lib.hid (N3.out.below hb)
        clear hb S3 N3 a0 a1 a2 a3
        obtain ⟨t, HT⟩ : ∃ t, Hid (t = ba (printL ⟨c, h, x, ls⟩)) := ⟨_, rfl⟩
        have HTb : Hid (bl t = printL ⟨c, h, x, ls⟩) := by show _ = _; rw [HT.out, bl_ba]
        have hts : t.size ≤ 400 := by rw [size_bl, HTb.out]; exact print_len _
        rw [← HT.out]
        obtain ⟨u, hu⟩ : ∃ u, u = t ++ (⟨#[115, 113, 117, 97, 114, 101, 10]⟩ : ByteArray) := ⟨_, rfl⟩
        have HU : Hid (bl u = printL ⟨c, h, x, ls⟩ ++ sqL) := by show _ = _; rw [hu, bl_add, HTb.out]; rfl
        have hus : u.size ≤ 100000 := by rw [hu, ByteArray.size_append]; show t.size + 7 ≤ 100000; omega
        by_cases h8 : 8 ≤ n
        · have g0 : decide ((8 : Int) ≤ (n : Int)) = true := by simp; omega
          have g1 : decide (8 ≤ n) = true := by simp; omega
          have h8l : 8 ≤ ls.length := by rw [← LX.out]; exact h8
          have HP : Hid (parseL (bl u) = (Nt.zero, 10, 5)) := by show _ = _; rw [HU.out]; exact parse_full HF.out h8l sqL (by decide)
          have hz : ¬ 9223372036854775807 < t.size + 7 := by omega
          go_wp2_with fail
          rw [← hu]
          refine (parse_is u _ HP.out _ hus S4.out.2).mono ?_
          rintro e w5 ⟨A5, k5, n5, rfl, hn5, hR5, hb⟩
          obtain rfl : n5 = 0 := hn5
          have S5 := Lib.hid (S4.out.below hb)
          have N5 := Lib.hid (N4.out.below hb)
          have M5 := Lib.hid (Nn.new (N := Nt.zero) (n := 0) (k := k5) rfl hR5)
          clear hb hR5 S4 N4
          simp only [Nt.zero]
          obtain ⟨a0, a1, a2, a3⟩ := N5.out.1.cells
          have la := N5.out.1.lt
          simp only at a0 a1 a2
          obtain ⟨r, hr⟩ : ∃ r, r = t ++ s := ⟨_, rfl⟩
          have HR : Hid (bl r = printL ⟨c, h, x, ls⟩ ++ bl s) := by show _ = _; rw [hr, bl_add, HTb.out]
          have hrs : r.size ≤ 100000 := by rw [hr, ByteArray.size_append]; omega
          have hz2 : ¬ 9223372036854775807 < t.size + s.size := by omega
          obtain ⟨m, a, er, hp⟩ : ∃ m a er, parseL (bl r) = (m, a, er) := ⟨_, _, _, rfl⟩
          have HQ := Lib.hid hp
          clear hp
          go_wp2_with fail
          rw [← hr]
          refine (parse_is r _ HQ.out _ hrs (S5.out.alloc _).2).mono ?_
          rintro e w6 ⟨A6, k6, n6, rfl, _, _, hb⟩
          have S6 := Lib.hid ((S5.out.alloc _).below hb)
          have M6 := Lib.hid (M5.out.below hb)
          clear hb S5 N5 M5 a0 a1 a2 a3 la
          simp only
          obtain ⟨b0, b1, b2, b3⟩ := M6.out.1.cells
          have lb := M6.out.1.lt
          simp only [Nt.zero] at b0 b1 b2
          go_wp2_with fail
          refine (same_any 0 0 0 _ _ _ _ _ _ [] [] _ (M6.out.alloc _).2.2 (Rl.nil _ none) rfl rfl (by decide) rfl).mono ?_
          rintro e w7 ⟨rfl, hb⟩
          have S7 := Lib.hid ((S6.out.alloc _).below hb)
          clear hb S6 M6 b0 b1 b2 b3 lb
          by_cases hse : bl s = []
          · obtain ⟨y1, y2, y3⟩ := emp_facts (s := s) (b := true) (by rw [hse]; rfl)
            clear hse
            go_wp2_with fail
            go_ret
            exact ⟨rfl, S7.out.1⟩
          · obtain ⟨y1, y2, y3⟩ := emp_facts (s := s) (b := false) (by cases hq : bl s with | nil => exact absurd hq hse | cons => rfl)
            have hpq := HQ.out
            rw [HR.out, parse_full HF.out h8l (bl s) hse] at hpq
            simp only [Prod.mk.injEq] at hpq
            obtain ⟨_, e2, e3⟩ := hpq
            subst e2
            subst e3
            clear hse
            go_wp2_with fail
            go_ret
            exact ⟨rfl, S7.out.1⟩
        · have g0 : decide ((8 : Int) ≤ (n : Int)) = false := by simp; omega
          have g1 : decide (8 ≤ n) = false := by simp; omega
          have h8l : ls.length < 8 := by rw [← LX.out]; omega
          have HP : Hid (parseL (bl u) = (⟨c, h, x, ls ++ [⟨2, 0, 0, 0⟩]⟩, 0, 0)) := by show _ = _; rw [HU.out]; exact parse_square HF.out h8l
          have hz : ¬ 9223372036854775807 < t.size + 7 := by omega
          go_wp2_with fail
          rw [← hu]
          refine (parse_is u _ HP.out _ hus S4.out.2).mono ?_
          rintro e w5 ⟨A5, k5, n5, rfl, hn5, hR5, hb⟩
          have S5 := Lib.hid (S4.out.below hb)
          have N5 := Lib.hid (N4.out.below hb)
          have M5 := Lib.hid (Nn.new (N := ⟨c, h, x, ls ++ [⟨2, 0, 0, 0⟩]⟩) (n := n5) (k := k5) hn5 hR5)
          have LN5 := Lib.hid hn5
          clear hb hR5 hn5 S4 N4
          simp only
          obtain ⟨a0, a1, a2, a3⟩ := N5.out.1.cells
          have la := N5.out.1.lt
          simp only at a0 a1 a2
          go_wp2_with fail
          obtain ⟨W, hW⟩ : ∃ W, W = w5.alloc (.cells #[.int .i64 c, .int .i64 h, .int .i64 x, .slice A5 n5 k5] 26) := ⟨_, rfl⟩
          have S7 := Lib.hid (S5.out.alloc (.cells #[.int .i64 c, .int .i64 h, .int .i64 x, .slice A5 n5 k5] 26))
          have N7 := Lib.hid (N5.out.alloc (.cells #[.int .i64 c, .int .i64 h, .int .i64 x, .slice A5 n5 k5] 26))
          rw [← hW] at S7 N7 M5 ⊢
          clear hW a0 a1 a2 a3 la S5 N5
          obtain ⟨a0, a1, a2, a3⟩ := N7.out.1.cells
          simp only at a0 a1 a2
          have hWl := N7.out.1.lt
          have HRn := Lib.hid (show Rl W A ls from N7.out.2.2)
          have v0a : ¬ w.heap.size = W.heap.size := by omega
          have v0b : ¬ W.heap.size = w.heap.size := by omega
          have v1a : ¬ w.heap.size = W.heap.size + 1 := by omega
          have v1b : ¬ W.heap.size + 1 = w.heap.size := by omega
          have v2a : ¬ w.heap.size = W.heap.size + 1 + 1 := by omega
          have v2b : ¬ W.heap.size + 1 + 1 = w.heap.size := by omega
          have v9a : w.heap.size < W.heap.size + 1 := by omega
          have v9b : w.heap.size < W.heap.size + 1 + 1 := by omega
          have hlen9 : n + 1 = (ls ++ [(⟨2, 0, 0, 0⟩ : Ly)]).length := by rw [List.length_append, ← LX.out]; rfl
          have HLEN := Lib.hid hlen9
          clear hlen9
          have hn5 : n5 ≤ 100 := by rw [LN5.out]; show (ls ++ [(⟨2, 0, 0, 0⟩ : Ly)]).length ≤ 100; rw [List.length_append]; simp; omega
          have RM := Lib.hid (show Rl W A5 (ls ++ [⟨2, 0, 0, 0⟩]) from M5.out.2.2)
          obtain ⟨b0, b1, b2, b3⟩ := M5.out.1.cells
          simp only at b0 b1 b2
          have hl5 := M5.out.1.lt
          have K3 : Hid (∀ o1 o2 o3 : Obj, (((W.alloc o1).alloc o2).alloc o3).drew.cell? ⟨w.heap.size, 0, none⟩ = some (.int .i64 c) ∧ (((W.alloc o1).alloc o2).alloc o3).drew.cell? ⟨w.heap.size, 1, none⟩ = some (.int .i64 h) ∧ (((W.alloc o1).alloc o2).alloc o3).drew.cell? ⟨w.heap.size, 2, none⟩ = some (.int .i64 x) ∧ (((W.alloc o1).alloc o2).alloc o3).drew.cell? ⟨w.heap.size, 3, none⟩ = some (.slice A n cA)) := fun o1 o2 o3 => ⟨((news3 W o1 o2 o3).cell (p := ⟨w.heap.size, 0, none⟩) hWl).trans a0, ((news3 W o1 o2 o3).cell (p := ⟨w.heap.size, 1, none⟩) hWl).trans a1, ((news3 W o1 o2 o3).cell (p := ⟨w.heap.size, 2, none⟩) hWl).trans a2, ((news3 W o1 o2 o3).cell (p := ⟨w.heap.size, 3, none⟩) hWl).trans a3⟩
          go_region_held3 (fun w' => w'.cell? ⟨w.heap.size, 0, none⟩ = some (.int .i64 c) ∧ w'.cell? ⟨w.heap.size, 1, none⟩ = some (.int .i64 h) ∧ w'.cell? ⟨w.heap.size, 2, none⟩ = some (.int .i64 x) ∧ w'.cell? ⟨w.heap.size, 3, none⟩ = some (.slice A n cA))
            (first | exact ⟨n90, n91, n92, n93⟩ | exact ⟨n80, n81, n82, n83⟩ | (with_reducible exact K3.out _ _ _) | go_keep)
            (first
              | ((
                  (with_reducible show (if _ = true then Oper.wp Tryd.prog _ _ (W.alloc (.cells #[] 42)).drew _ _ else _))
                  refine step_lay0 (by rfl) _ _ (by rfl) W.heap.size (.slice (some ⟨W.heap.size, 0, none⟩) 0 0) (by rfl) (void1 W 42 4 ) A n cA ls (by rfl) (HRn.out.below (news1 W (.cells #[] 42))) LX.out (by omega) (news1 W (.cells #[] 42)).size ?_
                  intro A8 c8 w8 hown8 hgrow8
                  have HB8 : Hid (Below W.heap.size W w8) := (news1 W (.cells #[] 42)).grown hgrow8 (news1 W (.cells #[] 42)).size (fun k hk => by simp [Value.ownBlock] at hk; omega)
                  have OW8 := Lib.hid hown8
                  have hbw8 := (HB8.out.size)
                  have n80 := (HB8.out.cell (p := ⟨w.heap.size, 0, none⟩) hWl).trans a0
                  have n81 := (HB8.out.cell (p := ⟨w.heap.size, 1, none⟩) hWl).trans a1
                  have n82 := (HB8.out.cell (p := ⟨w.heap.size, 2, none⟩) hWl).trans a2
                  have n83 := (HB8.out.cell (p := ⟨w.heap.size, 3, none⟩) hWl).trans a3
                  clear hown8 hgrow8))
              | ((
                  (with_reducible show (if _ = true then Oper.wp Tryd.prog _ _ ((W.alloc (.cells #[] 42)).alloc (.cells #[.int .i64 2, .int .i64 0, .int .i64 0, .int .i64 0] 42)).drew _ _ else _))
                  refine step_lay0 (by rfl) _ _ (by rfl) W.heap.size (.slice (some ⟨W.heap.size, 0, none⟩) 0 0) (by rfl) (void2a W 42 4 (.cells #[.int .i64 2, .int .i64 0, .int .i64 0, .int .i64 0] 42)) A n cA ls (by rfl) (HRn.out.below (news2 W (.cells #[] 42) (.cells #[.int .i64 2, .int .i64 0, .int .i64 0, .int .i64 0] 42))) LX.out (by omega) (news2 W (.cells #[] 42) (.cells #[.int .i64 2, .int .i64 0, .int .i64 0, .int .i64 0] 42)).size ?_
                  intro A8 c8 w8 hown8 hgrow8
                  have HB8 : Hid (Below W.heap.size W w8) := (news2 W (.cells #[] 42) (.cells #[.int .i64 2, .int .i64 0, .int .i64 0, .int .i64 0] 42)).grown hgrow8 (news2 W (.cells #[] 42) (.cells #[.int .i64 2, .int .i64 0, .int .i64 0, .int .i64 0] 42)).size (fun k hk => by simp [Value.ownBlock] at hk; omega)
                  have OW8 := Lib.hid hown8
                  have HQ8 : Hid (QB w8 (W.heap.size + 1)) := qb_grow hgrow8 (two_new W (.cells #[] 42) (.cells #[.int .i64 2, .int .i64 0, .int .i64 0, .int .i64 0] 42)) (by omega)
                  have hbw8 := (HB8.out.size)
                  have n80 := (HB8.out.cell (p := ⟨w.heap.size, 0, none⟩) hWl).trans a0
                  have n81 := (HB8.out.cell (p := ⟨w.heap.size, 1, none⟩) hWl).trans a1
                  have n82 := (HB8.out.cell (p := ⟨w.heap.size, 2, none⟩) hWl).trans a2
                  have n83 := (HB8.out.cell (p := ⟨w.heap.size, 3, none⟩) hWl).trans a3
                  clear hown8 hgrow8))
              | ((
                  (with_reducible show (if _ = true then Oper.wp Tryd.prog _ _ ((W.alloc (.cells #[.int .i64 2, .int .i64 0, .int .i64 0, .int .i64 0] 42)).alloc (.cells #[] 42)).drew _ _ else _))
                  refine step_lay0 (by rfl) _ _ (by rfl) W.heap.size (.slice (some ⟨W.heap.size + 1, 0, none⟩) 0 0) (by rfl) (void2b W 42 4 (.cells #[.int .i64 2, .int .i64 0, .int .i64 0, .int .i64 0] 42)) A n cA ls (by rfl) (HRn.out.below (news2 W (.cells #[.int .i64 2, .int .i64 0, .int .i64 0, .int .i64 0] 42) (.cells #[] 42))) LX.out (by omega) (news2 W (.cells #[.int .i64 2, .int .i64 0, .int .i64 0, .int .i64 0] 42) (.cells #[] 42)).size ?_
                  intro A8 c8 w8 hown8 hgrow8
                  have HB8 : Hid (Below W.heap.size W w8) := (news2 W (.cells #[.int .i64 2, .int .i64 0, .int .i64 0, .int .i64 0] 42) (.cells #[] 42)).grown hgrow8 (news2 W (.cells #[.int .i64 2, .int .i64 0, .int .i64 0, .int .i64 0] 42) (.cells #[] 42)).size (fun k hk => by simp [Value.ownBlock] at hk; omega)
                  have OW8 := Lib.hid hown8
                  have HQ8 : Hid (QB w8 (W.heap.size)) := qb_grow hgrow8 (two_old W (.cells #[.int .i64 2, .int .i64 0, .int .i64 0, .int .i64 0] 42) (.cells #[] 42)) (by omega)
                  have hbw8 := (HB8.out.size)
                  have n80 := (HB8.out.cell (p := ⟨w.heap.size, 0, none⟩) hWl).trans a0
                  have n81 := (HB8.out.cell (p := ⟨w.heap.size, 1, none⟩) hWl).trans a1
                  have n82 := (HB8.out.cell (p := ⟨w.heap.size, 2, none⟩) hWl).trans a2
                  have n83 := (HB8.out.cell (p := ⟨w.heap.size, 3, none⟩) hWl).trans a3
                  clear hown8 hgrow8))
              | ((
                  (with_reducible show (if _ = true then Oper.wp Tryd.prog _ _ ((W.alloc (.cells #[] 42)).alloc (.cells #[.int .i64 0, .int .i64 0, .int .i64 0, .slice none 0 0] 26)).drew _ _ else _))
                  refine step_lay0 (by rfl) _ _ (by rfl) W.heap.size (.slice (some ⟨W.heap.size, 0, none⟩) 0 0) (by rfl) (void2a W 42 4 (.cells #[.int .i64 0, .int .i64 0, .int .i64 0, .slice none 0 0] 26)) A n cA ls (by rfl) (HRn.out.below (news2 W (.cells #[] 42) (.cells #[.int .i64 0, .int .i64 0, .int .i64 0, .slice none 0 0] 26))) LX.out (by omega) (news2 W (.cells #[] 42) (.cells #[.int .i64 0, .int .i64 0, .int .i64 0, .slice none 0 0] 26)).size ?_
                  intro A8 c8 w8 hown8 hgrow8
                  have HB8 : Hid (Below W.heap.size W w8) := (news2 W (.cells #[] 42) (.cells #[.int .i64 0, .int .i64 0, .int .i64 0, .slice none 0 0] 26)).grown hgrow8 (news2 W (.cells #[] 42) (.cells #[.int .i64 0, .int .i64 0, .int .i64 0, .slice none 0 0] 26)).size (fun k hk => by simp [Value.ownBlock] at hk; omega)
                  have OW8 := Lib.hid hown8
                  have HZ8 : Hid (NB w8 (W.heap.size + 1) 0 0 0 (.slice none 0 0)) := nb_grow hgrow8 (void2a W 42 4 (.cells #[.int .i64 0, .int .i64 0, .int .i64 0, .slice none 0 0] 26)) (two_new W (.cells #[] 42) (.cells #[.int .i64 0, .int .i64 0, .int .i64 0, .slice none 0 0] 26))
                  have hbw8 := (HB8.out.size)
                  have n80 := (HB8.out.cell (p := ⟨w.heap.size, 0, none⟩) hWl).trans a0
                  have n81 := (HB8.out.cell (p := ⟨w.heap.size, 1, none⟩) hWl).trans a1
                  have n82 := (HB8.out.cell (p := ⟨w.heap.size, 2, none⟩) hWl).trans a2
                  have n83 := (HB8.out.cell (p := ⟨w.heap.size, 3, none⟩) hWl).trans a3
                  clear hown8 hgrow8))
              | ((
                  (with_reducible show (if _ = true then Oper.wp Tryd.prog _ _ ((W.alloc (.cells #[.int .i64 0, .int .i64 0, .int .i64 0, .slice none 0 0] 26)).alloc (.cells #[] 42)).drew _ _ else _))
                  refine step_lay0 (by rfl) _ _ (by rfl) W.heap.size (.slice (some ⟨W.heap.size + 1, 0, none⟩) 0 0) (by rfl) (void2b W 42 4 (.cells #[.int .i64 0, .int .i64 0, .int .i64 0, .slice none 0 0] 26)) A n cA ls (by rfl) (HRn.out.below (news2 W (.cells #[.int .i64 0, .int .i64 0, .int .i64 0, .slice none 0 0] 26) (.cells #[] 42))) LX.out (by omega) (news2 W (.cells #[.int .i64 0, .int .i64 0, .int .i64 0, .slice none 0 0] 26) (.cells #[] 42)).size ?_
                  intro A8 c8 w8 hown8 hgrow8
                  have HB8 : Hid (Below W.heap.size W w8) := (news2 W (.cells #[.int .i64 0, .int .i64 0, .int .i64 0, .slice none 0 0] 26) (.cells #[] 42)).grown hgrow8 (news2 W (.cells #[.int .i64 0, .int .i64 0, .int .i64 0, .slice none 0 0] 26) (.cells #[] 42)).size (fun k hk => by simp [Value.ownBlock] at hk; omega)
                  have OW8 := Lib.hid hown8
                  have HZ8 : Hid (NB w8 (W.heap.size) 0 0 0 (.slice none 0 0)) := nb_grow hgrow8 (void2b W 42 4 (.cells #[.int .i64 0, .int .i64 0, .int .i64 0, .slice none 0 0] 26)) (two_old W (.cells #[.int .i64 0, .int .i64 0, .int .i64 0, .slice none 0 0] 26) (.cells #[] 42))
                  have hbw8 := (HB8.out.size)
                  have n80 := (HB8.out.cell (p := ⟨w.heap.size, 0, none⟩) hWl).trans a0
                  have n81 := (HB8.out.cell (p := ⟨w.heap.size, 1, none⟩) hWl).trans a1
                  have n82 := (HB8.out.cell (p := ⟨w.heap.size, 2, none⟩) hWl).trans a2
                  have n83 := (HB8.out.cell (p := ⟨w.heap.size, 3, none⟩) hWl).trans a3
                  clear hown8 hgrow8))
              | ((
                  (with_reducible show (if _ = true then Oper.wp Tryd.prog _ _ (((W.alloc (.cells #[] 42)).alloc (.cells #[.int .i64 2, .int .i64 0, .int .i64 0, .int .i64 0] 42)).alloc (.cells #[.int .i64 0, .int .i64 0, .int .i64 0, .slice none 0 0] 26)).drew _ _ else _))
                  refine step_lay0 (by rfl) _ _ (by rfl) W.heap.size (.slice (some ⟨W.heap.size, 0, none⟩) 0 0) (by rfl) (void3a W 42 4 (.cells #[.int .i64 2, .int .i64 0, .int .i64 0, .int .i64 0] 42) (.cells #[.int .i64 0, .int .i64 0, .int .i64 0, .slice none 0 0] 26)) A n cA ls (by rfl) (HRn.out.below (news3 W (.cells #[] 42) (.cells #[.int .i64 2, .int .i64 0, .int .i64 0, .int .i64 0] 42) (.cells #[.int .i64 0, .int .i64 0, .int .i64 0, .slice none 0 0] 26))) LX.out (by omega) (news3 W (.cells #[] 42) (.cells #[.int .i64 2, .int .i64 0, .int .i64 0, .int .i64 0] 42) (.cells #[.int .i64 0, .int .i64 0, .int .i64 0, .slice none 0 0] 26)).size ?_
                  intro A8 c8 w8 hown8 hgrow8
                  have HB8 : Hid (Below W.heap.size W w8) := (news3 W (.cells #[] 42) (.cells #[.int .i64 2, .int .i64 0, .int .i64 0, .int .i64 0] 42) (.cells #[.int .i64 0, .int .i64 0, .int .i64 0, .slice none 0 0] 26)).grown hgrow8 (news3 W (.cells #[] 42) (.cells #[.int .i64 2, .int .i64 0, .int .i64 0, .int .i64 0] 42) (.cells #[.int .i64 0, .int .i64 0, .int .i64 0, .slice none 0 0] 26)).size (fun k hk => by simp [Value.ownBlock] at hk; omega)
                  have OW8 := Lib.hid hown8
                  have HQ8 : Hid (QB w8 (W.heap.size + 1)) := qb_grow hgrow8 (three_mid W (.cells #[] 42) (.cells #[.int .i64 2, .int .i64 0, .int .i64 0, .int .i64 0] 42) (.cells #[.int .i64 0, .int .i64 0, .int .i64 0, .slice none 0 0] 26)) (by omega)
                  have HZ8 : Hid (NB w8 (W.heap.size + 1 + 1) 0 0 0 (.slice none 0 0)) := nb_grow hgrow8 (void3a W 42 4 (.cells #[.int .i64 2, .int .i64 0, .int .i64 0, .int .i64 0] 42) (.cells #[.int .i64 0, .int .i64 0, .int .i64 0, .slice none 0 0] 26)) (three_new W (.cells #[] 42) (.cells #[.int .i64 2, .int .i64 0, .int .i64 0, .int .i64 0] 42) (.cells #[.int .i64 0, .int .i64 0, .int .i64 0, .slice none 0 0] 26))
                  have hbw8 := (HB8.out.size)
                  have n80 := (HB8.out.cell (p := ⟨w.heap.size, 0, none⟩) hWl).trans a0
                  have n81 := (HB8.out.cell (p := ⟨w.heap.size, 1, none⟩) hWl).trans a1
                  have n82 := (HB8.out.cell (p := ⟨w.heap.size, 2, none⟩) hWl).trans a2
                  have n83 := (HB8.out.cell (p := ⟨w.heap.size, 3, none⟩) hWl).trans a3
                  clear hown8 hgrow8))
              | ((
                  (with_reducible show (if _ = true then Oper.wp Tryd.prog _ _ (((W.alloc (.cells #[] 42)).alloc (.cells #[.int .i64 0, .int .i64 0, .int .i64 0, .slice none 0 0] 26)).alloc (.cells #[.int .i64 2, .int .i64 0, .int .i64 0, .int .i64 0] 42)).drew _ _ else _))
                  refine step_lay0 (by rfl) _ _ (by rfl) W.heap.size (.slice (some ⟨W.heap.size, 0, none⟩) 0 0) (by rfl) (void3a W 42 4 (.cells #[.int .i64 0, .int .i64 0, .int .i64 0, .slice none 0 0] 26) (.cells #[.int .i64 2, .int .i64 0, .int .i64 0, .int .i64 0] 42)) A n cA ls (by rfl) (HRn.out.below (news3 W (.cells #[] 42) (.cells #[.int .i64 0, .int .i64 0, .int .i64 0, .slice none 0 0] 26) (.cells #[.int .i64 2, .int .i64 0, .int .i64 0, .int .i64 0] 42))) LX.out (by omega) (news3 W (.cells #[] 42) (.cells #[.int .i64 0, .int .i64 0, .int .i64 0, .slice none 0 0] 26) (.cells #[.int .i64 2, .int .i64 0, .int .i64 0, .int .i64 0] 42)).size ?_
                  intro A8 c8 w8 hown8 hgrow8
                  have HB8 : Hid (Below W.heap.size W w8) := (news3 W (.cells #[] 42) (.cells #[.int .i64 0, .int .i64 0, .int .i64 0, .slice none 0 0] 26) (.cells #[.int .i64 2, .int .i64 0, .int .i64 0, .int .i64 0] 42)).grown hgrow8 (news3 W (.cells #[] 42) (.cells #[.int .i64 0, .int .i64 0, .int .i64 0, .slice none 0 0] 26) (.cells #[.int .i64 2, .int .i64 0, .int .i64 0, .int .i64 0] 42)).size (fun k hk => by simp [Value.ownBlock] at hk; omega)
                  have OW8 := Lib.hid hown8
                  have HQ8 : Hid (QB w8 (W.heap.size + 1 + 1)) := qb_grow hgrow8 (three_new W (.cells #[] 42) (.cells #[.int .i64 0, .int .i64 0, .int .i64 0, .slice none 0 0] 26) (.cells #[.int .i64 2, .int .i64 0, .int .i64 0, .int .i64 0] 42)) (by omega)
                  have HZ8 : Hid (NB w8 (W.heap.size + 1) 0 0 0 (.slice none 0 0)) := nb_grow hgrow8 (void3a W 42 4 (.cells #[.int .i64 0, .int .i64 0, .int .i64 0, .slice none 0 0] 26) (.cells #[.int .i64 2, .int .i64 0, .int .i64 0, .int .i64 0] 42)) (three_mid W (.cells #[] 42) (.cells #[.int .i64 0, .int .i64 0, .int .i64 0, .slice none 0 0] 26) (.cells #[.int .i64 2, .int .i64 0, .int .i64 0, .int .i64 0] 42))
                  have hbw8 := (HB8.out.size)
                  have n80 := (HB8.out.cell (p := ⟨w.heap.size, 0, none⟩) hWl).trans a0
                  have n81 := (HB8.out.cell (p := ⟨w.heap.size, 1, none⟩) hWl).trans a1
                  have n82 := (HB8.out.cell (p := ⟨w.heap.size, 2, none⟩) hWl).trans a2
                  have n83 := (HB8.out.cell (p := ⟨w.heap.size, 3, none⟩) hWl).trans a3
                  clear hown8 hgrow8))
              | ((
                  (with_reducible show (if _ = true then Oper.wp Tryd.prog _ _ (((W.alloc (.cells #[.int .i64 2, .int .i64 0, .int .i64 0, .int .i64 0] 42)).alloc (.cells #[] 42)).alloc (.cells #[.int .i64 0, .int .i64 0, .int .i64 0, .slice none 0 0] 26)).drew _ _ else _))
                  refine step_lay0 (by rfl) _ _ (by rfl) W.heap.size (.slice (some ⟨W.heap.size + 1, 0, none⟩) 0 0) (by rfl) (void3b W 42 4 (.cells #[.int .i64 2, .int .i64 0, .int .i64 0, .int .i64 0] 42) (.cells #[.int .i64 0, .int .i64 0, .int .i64 0, .slice none 0 0] 26)) A n cA ls (by rfl) (HRn.out.below (news3 W (.cells #[.int .i64 2, .int .i64 0, .int .i64 0, .int .i64 0] 42) (.cells #[] 42) (.cells #[.int .i64 0, .int .i64 0, .int .i64 0, .slice none 0 0] 26))) LX.out (by omega) (news3 W (.cells #[.int .i64 2, .int .i64 0, .int .i64 0, .int .i64 0] 42) (.cells #[] 42) (.cells #[.int .i64 0, .int .i64 0, .int .i64 0, .slice none 0 0] 26)).size ?_
                  intro A8 c8 w8 hown8 hgrow8
                  have HB8 : Hid (Below W.heap.size W w8) := (news3 W (.cells #[.int .i64 2, .int .i64 0, .int .i64 0, .int .i64 0] 42) (.cells #[] 42) (.cells #[.int .i64 0, .int .i64 0, .int .i64 0, .slice none 0 0] 26)).grown hgrow8 (news3 W (.cells #[.int .i64 2, .int .i64 0, .int .i64 0, .int .i64 0] 42) (.cells #[] 42) (.cells #[.int .i64 0, .int .i64 0, .int .i64 0, .slice none 0 0] 26)).size (fun k hk => by simp [Value.ownBlock] at hk; omega)
                  have OW8 := Lib.hid hown8
                  have HQ8 : Hid (QB w8 (W.heap.size)) := qb_grow hgrow8 (three_old W (.cells #[.int .i64 2, .int .i64 0, .int .i64 0, .int .i64 0] 42) (.cells #[] 42) (.cells #[.int .i64 0, .int .i64 0, .int .i64 0, .slice none 0 0] 26)) (by omega)
                  have HZ8 : Hid (NB w8 (W.heap.size + 1 + 1) 0 0 0 (.slice none 0 0)) := nb_grow hgrow8 (void3b W 42 4 (.cells #[.int .i64 2, .int .i64 0, .int .i64 0, .int .i64 0] 42) (.cells #[.int .i64 0, .int .i64 0, .int .i64 0, .slice none 0 0] 26)) (three_new W (.cells #[.int .i64 2, .int .i64 0, .int .i64 0, .int .i64 0] 42) (.cells #[] 42) (.cells #[.int .i64 0, .int .i64 0, .int .i64 0, .slice none 0 0] 26))
                  have hbw8 := (HB8.out.size)
                  have n80 := (HB8.out.cell (p := ⟨w.heap.size, 0, none⟩) hWl).trans a0
                  have n81 := (HB8.out.cell (p := ⟨w.heap.size, 1, none⟩) hWl).trans a1
                  have n82 := (HB8.out.cell (p := ⟨w.heap.size, 2, none⟩) hWl).trans a2
                  have n83 := (HB8.out.cell (p := ⟨w.heap.size, 3, none⟩) hWl).trans a3
                  clear hown8 hgrow8))
              | ((
                  (with_reducible show (if _ = true then Oper.wp Tryd.prog _ _ (((W.alloc (.cells #[.int .i64 2, .int .i64 0, .int .i64 0, .int .i64 0] 42)).alloc (.cells #[.int .i64 0, .int .i64 0, .int .i64 0, .slice none 0 0] 26)).alloc (.cells #[] 42)).drew _ _ else _))
                  refine step_lay0 (by rfl) _ _ (by rfl) W.heap.size (.slice (some ⟨W.heap.size + 1 + 1, 0, none⟩) 0 0) (by rfl) (void3c W 42 4 (.cells #[.int .i64 2, .int .i64 0, .int .i64 0, .int .i64 0] 42) (.cells #[.int .i64 0, .int .i64 0, .int .i64 0, .slice none 0 0] 26)) A n cA ls (by rfl) (HRn.out.below (news3 W (.cells #[.int .i64 2, .int .i64 0, .int .i64 0, .int .i64 0] 42) (.cells #[.int .i64 0, .int .i64 0, .int .i64 0, .slice none 0 0] 26) (.cells #[] 42))) LX.out (by omega) (news3 W (.cells #[.int .i64 2, .int .i64 0, .int .i64 0, .int .i64 0] 42) (.cells #[.int .i64 0, .int .i64 0, .int .i64 0, .slice none 0 0] 26) (.cells #[] 42)).size ?_
                  intro A8 c8 w8 hown8 hgrow8
                  have HB8 : Hid (Below W.heap.size W w8) := (news3 W (.cells #[.int .i64 2, .int .i64 0, .int .i64 0, .int .i64 0] 42) (.cells #[.int .i64 0, .int .i64 0, .int .i64 0, .slice none 0 0] 26) (.cells #[] 42)).grown hgrow8 (news3 W (.cells #[.int .i64 2, .int .i64 0, .int .i64 0, .int .i64 0] 42) (.cells #[.int .i64 0, .int .i64 0, .int .i64 0, .slice none 0 0] 26) (.cells #[] 42)).size (fun k hk => by simp [Value.ownBlock] at hk; omega)
                  have OW8 := Lib.hid hown8
                  have HQ8 : Hid (QB w8 (W.heap.size)) := qb_grow hgrow8 (three_old W (.cells #[.int .i64 2, .int .i64 0, .int .i64 0, .int .i64 0] 42) (.cells #[.int .i64 0, .int .i64 0, .int .i64 0, .slice none 0 0] 26) (.cells #[] 42)) (by omega)
                  have HZ8 : Hid (NB w8 (W.heap.size + 1) 0 0 0 (.slice none 0 0)) := nb_grow hgrow8 (void3c W 42 4 (.cells #[.int .i64 2, .int .i64 0, .int .i64 0, .int .i64 0] 42) (.cells #[.int .i64 0, .int .i64 0, .int .i64 0, .slice none 0 0] 26)) (three_mid W (.cells #[.int .i64 2, .int .i64 0, .int .i64 0, .int .i64 0] 42) (.cells #[.int .i64 0, .int .i64 0, .int .i64 0, .slice none 0 0] 26) (.cells #[] 42))
                  have hbw8 := (HB8.out.size)
                  have n80 := (HB8.out.cell (p := ⟨w.heap.size, 0, none⟩) hWl).trans a0
                  have n81 := (HB8.out.cell (p := ⟨w.heap.size, 1, none⟩) hWl).trans a1
                  have n82 := (HB8.out.cell (p := ⟨w.heap.size, 2, none⟩) hWl).trans a2
                  have n83 := (HB8.out.cell (p := ⟨w.heap.size, 3, none⟩) hWl).trans a3
                  clear hown8 hgrow8))
              | ((
                  (with_reducible show (if _ = true then Oper.wp Tryd.prog _ _ (((W.alloc (.cells #[.int .i64 0, .int .i64 0, .int .i64 0, .slice none 0 0] 26)).alloc (.cells #[] 42)).alloc (.cells #[.int .i64 2, .int .i64 0, .int .i64 0, .int .i64 0] 42)).drew _ _ else _))
                  refine step_lay0 (by rfl) _ _ (by rfl) W.heap.size (.slice (some ⟨W.heap.size + 1, 0, none⟩) 0 0) (by rfl) (void3b W 42 4 (.cells #[.int .i64 0, .int .i64 0, .int .i64 0, .slice none 0 0] 26) (.cells #[.int .i64 2, .int .i64 0, .int .i64 0, .int .i64 0] 42)) A n cA ls (by rfl) (HRn.out.below (news3 W (.cells #[.int .i64 0, .int .i64 0, .int .i64 0, .slice none 0 0] 26) (.cells #[] 42) (.cells #[.int .i64 2, .int .i64 0, .int .i64 0, .int .i64 0] 42))) LX.out (by omega) (news3 W (.cells #[.int .i64 0, .int .i64 0, .int .i64 0, .slice none 0 0] 26) (.cells #[] 42) (.cells #[.int .i64 2, .int .i64 0, .int .i64 0, .int .i64 0] 42)).size ?_
                  intro A8 c8 w8 hown8 hgrow8
                  have HB8 : Hid (Below W.heap.size W w8) := (news3 W (.cells #[.int .i64 0, .int .i64 0, .int .i64 0, .slice none 0 0] 26) (.cells #[] 42) (.cells #[.int .i64 2, .int .i64 0, .int .i64 0, .int .i64 0] 42)).grown hgrow8 (news3 W (.cells #[.int .i64 0, .int .i64 0, .int .i64 0, .slice none 0 0] 26) (.cells #[] 42) (.cells #[.int .i64 2, .int .i64 0, .int .i64 0, .int .i64 0] 42)).size (fun k hk => by simp [Value.ownBlock] at hk; omega)
                  have OW8 := Lib.hid hown8
                  have HQ8 : Hid (QB w8 (W.heap.size + 1 + 1)) := qb_grow hgrow8 (three_new W (.cells #[.int .i64 0, .int .i64 0, .int .i64 0, .slice none 0 0] 26) (.cells #[] 42) (.cells #[.int .i64 2, .int .i64 0, .int .i64 0, .int .i64 0] 42)) (by omega)
                  have HZ8 : Hid (NB w8 (W.heap.size) 0 0 0 (.slice none 0 0)) := nb_grow hgrow8 (void3b W 42 4 (.cells #[.int .i64 0, .int .i64 0, .int .i64 0, .slice none 0 0] 26) (.cells #[.int .i64 2, .int .i64 0, .int .i64 0, .int .i64 0] 42)) (three_old W (.cells #[.int .i64 0, .int .i64 0, .int .i64 0, .slice none 0 0] 26) (.cells #[] 42) (.cells #[.int .i64 2, .int .i64 0, .int .i64 0, .int .i64 0] 42))
                  have hbw8 := (HB8.out.size)
                  have n80 := (HB8.out.cell (p := ⟨w.heap.size, 0, none⟩) hWl).trans a0
                  have n81 := (HB8.out.cell (p := ⟨w.heap.size, 1, none⟩) hWl).trans a1
                  have n82 := (HB8.out.cell (p := ⟨w.heap.size, 2, none⟩) hWl).trans a2
                  have n83 := (HB8.out.cell (p := ⟨w.heap.size, 3, none⟩) hWl).trans a3
                  clear hown8 hgrow8))
              | ((
                  (with_reducible show (if _ = true then Oper.wp Tryd.prog _ _ (((W.alloc (.cells #[.int .i64 0, .int .i64 0, .int .i64 0, .slice none 0 0] 26)).alloc (.cells #[.int .i64 2, .int .i64 0, .int .i64 0, .int .i64 0] 42)).alloc (.cells #[] 42)).drew _ _ else _))
                  refine step_lay0 (by rfl) _ _ (by rfl) W.heap.size (.slice (some ⟨W.heap.size + 1 + 1, 0, none⟩) 0 0) (by rfl) (void3c W 42 4 (.cells #[.int .i64 0, .int .i64 0, .int .i64 0, .slice none 0 0] 26) (.cells #[.int .i64 2, .int .i64 0, .int .i64 0, .int .i64 0] 42)) A n cA ls (by rfl) (HRn.out.below (news3 W (.cells #[.int .i64 0, .int .i64 0, .int .i64 0, .slice none 0 0] 26) (.cells #[.int .i64 2, .int .i64 0, .int .i64 0, .int .i64 0] 42) (.cells #[] 42))) LX.out (by omega) (news3 W (.cells #[.int .i64 0, .int .i64 0, .int .i64 0, .slice none 0 0] 26) (.cells #[.int .i64 2, .int .i64 0, .int .i64 0, .int .i64 0] 42) (.cells #[] 42)).size ?_
                  intro A8 c8 w8 hown8 hgrow8
                  have HB8 : Hid (Below W.heap.size W w8) := (news3 W (.cells #[.int .i64 0, .int .i64 0, .int .i64 0, .slice none 0 0] 26) (.cells #[.int .i64 2, .int .i64 0, .int .i64 0, .int .i64 0] 42) (.cells #[] 42)).grown hgrow8 (news3 W (.cells #[.int .i64 0, .int .i64 0, .int .i64 0, .slice none 0 0] 26) (.cells #[.int .i64 2, .int .i64 0, .int .i64 0, .int .i64 0] 42) (.cells #[] 42)).size (fun k hk => by simp [Value.ownBlock] at hk; omega)
                  have OW8 := Lib.hid hown8
                  have HQ8 : Hid (QB w8 (W.heap.size + 1)) := qb_grow hgrow8 (three_mid W (.cells #[.int .i64 0, .int .i64 0, .int .i64 0, .slice none 0 0] 26) (.cells #[.int .i64 2, .int .i64 0, .int .i64 0, .int .i64 0] 42) (.cells #[] 42)) (by omega)
                  have HZ8 : Hid (NB w8 (W.heap.size) 0 0 0 (.slice none 0 0)) := nb_grow hgrow8 (void3c W 42 4 (.cells #[.int .i64 0, .int .i64 0, .int .i64 0, .slice none 0 0] 26) (.cells #[.int .i64 2, .int .i64 0, .int .i64 0, .int .i64 0] 42)) (three_old W (.cells #[.int .i64 0, .int .i64 0, .int .i64 0, .slice none 0 0] 26) (.cells #[.int .i64 2, .int .i64 0, .int .i64 0, .int .i64 0] 42) (.cells #[] 42))
                  have hbw8 := (HB8.out.size)
                  have n80 := (HB8.out.cell (p := ⟨w.heap.size, 0, none⟩) hWl).trans a0
                  have n81 := (HB8.out.cell (p := ⟨w.heap.size, 1, none⟩) hWl).trans a1
                  have n82 := (HB8.out.cell (p := ⟨w.heap.size, 2, none⟩) hWl).trans a2
                  have n83 := (HB8.out.cell (p := ⟨w.heap.size, 3, none⟩) hWl).trans a3
                  clear hown8 hgrow8))
              | ((
                  (with_reducible show (if _ = true then Oper.wp Tryd.prog _ _ w8 _ _ else _))
                  refine step_lay (by rfl) _ _ (by rfl) W.heap.size (.slice A8 n c8) n ls (by rfl) (OW8.out) (some ⟨_, 0, none⟩) 1 1 [⟨2, 0, 0, 0⟩] rfl (rl_q (HQ8.out)) rfl (by omega) (HB8.out.size) ?_
                  intro A9 c9 w9 hown9 hgrow9 hat9
                  have HB9 : Hid (Below W.heap.size W w9) := (HB8.out).grown hgrow9 (HB8.out.size) (fun k hk => (OW8.out.lt k hk).1)
                  have OW9 := Lib.hid hown9
                  have HZ9 := Lib.hid (nb_grow hgrow9 (OW8.out) (HZ8.out))
                  obtain ⟨z90, z91, z92, z93⟩ := HZ9.out.cells
                  obtain ⟨f90, f91, f92, f93⟩ := HZ9.out.frozen
                  have hbw9 := (HB9.out.size)
                  have n90 := (HB9.out.cell (p := ⟨w.heap.size, 0, none⟩) hWl).trans a0
                  have n91 := (HB9.out.cell (p := ⟨w.heap.size, 1, none⟩) hWl).trans a1
                  have n92 := (HB9.out.cell (p := ⟨w.heap.size, 2, none⟩) hWl).trans a2
                  have n93 := (HB9.out.cell (p := ⟨w.heap.size, 3, none⟩) hWl).trans a3
                  have u0a : ¬ w5.heap.size = W.heap.size := by omega
                  have u0b : ¬ W.heap.size = w5.heap.size := by omega
                  have u1a : ¬ w5.heap.size = W.heap.size + 1 := by omega
                  have u1b : ¬ W.heap.size + 1 = w5.heap.size := by omega
                  have u2a : ¬ w5.heap.size = W.heap.size + 1 + 1 := by omega
                  have u2b : ¬ W.heap.size + 1 + 1 = w5.heap.size := by omega
                  have u3a : ¬ w5.heap.size = w8.heap.size := by omega
                  have u3b : ¬ w8.heap.size = w5.heap.size := by omega
                  have u4a : ¬ w5.heap.size = w8.heap.size + 1 := by omega
                  have u4b : ¬ w8.heap.size + 1 = w5.heap.size := by omega
                  have u5a : ¬ w5.heap.size = w9.heap.size := by omega
                  have u5b : ¬ w9.heap.size = w5.heap.size := by omega
                  have y0a : ¬ w.heap.size = W.heap.size := by omega
                  have y0b : ¬ W.heap.size = w.heap.size := by omega
                  have y1a : ¬ w.heap.size = W.heap.size + 1 := by omega
                  have y1b : ¬ W.heap.size + 1 = w.heap.size := by omega
                  have y2a : ¬ w.heap.size = W.heap.size + 1 + 1 := by omega
                  have y2b : ¬ W.heap.size + 1 + 1 = w.heap.size := by omega
                  have y3a : ¬ w.heap.size = w8.heap.size := by omega
                  have y3b : ¬ w8.heap.size = w.heap.size := by omega
                  have y4a : ¬ w.heap.size = w8.heap.size + 1 := by omega
                  have y4b : ¬ w8.heap.size + 1 = w.heap.size := by omega
                  have y5a : ¬ w.heap.size = w9.heap.size := by omega
                  have y5b : ¬ w9.heap.size = w.heap.size := by omega
                  clear hown9 hgrow9 hat9))
              | ((
                  (with_reducible show (if _ = true then Oper.wp Tryd.prog _ _ w8 _ _ else _))
                  refine step_lay (by rfl) _ _ (by rfl) W.heap.size (.slice A8 n c8) n ls (by rfl) (OW8.out) (some ⟨_, 0, none⟩) 1 1 [⟨2, 0, 0, 0⟩] rfl (rl_q (HQ8.out)) rfl (by omega) (HB8.out.size) ?_
                  intro A9 c9 w9 hown9 hgrow9 hat9
                  have HB9 : Hid (Below W.heap.size W w9) := (HB8.out).grown hgrow9 (HB8.out.size) (fun k hk => (OW8.out.lt k hk).1)
                  have OW9 := Lib.hid hown9
                  have hbw9 := (HB9.out.size)
                  have n90 := (HB9.out.cell (p := ⟨w.heap.size, 0, none⟩) hWl).trans a0
                  have n91 := (HB9.out.cell (p := ⟨w.heap.size, 1, none⟩) hWl).trans a1
                  have n92 := (HB9.out.cell (p := ⟨w.heap.size, 2, none⟩) hWl).trans a2
                  have n93 := (HB9.out.cell (p := ⟨w.heap.size, 3, none⟩) hWl).trans a3
                  have u0a : ¬ w5.heap.size = W.heap.size := by omega
                  have u0b : ¬ W.heap.size = w5.heap.size := by omega
                  have u1a : ¬ w5.heap.size = W.heap.size + 1 := by omega
                  have u1b : ¬ W.heap.size + 1 = w5.heap.size := by omega
                  have u2a : ¬ w5.heap.size = W.heap.size + 1 + 1 := by omega
                  have u2b : ¬ W.heap.size + 1 + 1 = w5.heap.size := by omega
                  have u3a : ¬ w5.heap.size = w8.heap.size := by omega
                  have u3b : ¬ w8.heap.size = w5.heap.size := by omega
                  have u4a : ¬ w5.heap.size = w8.heap.size + 1 := by omega
                  have u4b : ¬ w8.heap.size + 1 = w5.heap.size := by omega
                  have u5a : ¬ w5.heap.size = w9.heap.size := by omega
                  have u5b : ¬ w9.heap.size = w5.heap.size := by omega
                  have y0a : ¬ w.heap.size = W.heap.size := by omega
                  have y0b : ¬ W.heap.size = w.heap.size := by omega
                  have y1a : ¬ w.heap.size = W.heap.size + 1 := by omega
                  have y1b : ¬ W.heap.size + 1 = w.heap.size := by omega
                  have y2a : ¬ w.heap.size = W.heap.size + 1 + 1 := by omega
                  have y2b : ¬ W.heap.size + 1 + 1 = w.heap.size := by omega
                  have y3a : ¬ w.heap.size = w8.heap.size := by omega
                  have y3b : ¬ w8.heap.size = w.heap.size := by omega
                  have y4a : ¬ w.heap.size = w8.heap.size + 1 := by omega
                  have y4b : ¬ w8.heap.size + 1 = w.heap.size := by omega
                  have y5a : ¬ w.heap.size = w9.heap.size := by omega
                  have y5b : ¬ w9.heap.size = w.heap.size := by omega
                  clear hown9 hgrow9 hat9))
              | ((
                  (with_reducible show (if _ = true then Oper.wp Tryd.prog _ _ (w8.alloc (.cells #[.int .i64 0, .int .i64 0, .int .i64 0, .slice none 0 0] 26)) _ _ else _))
                  refine step_lay (by rfl) _ _ (by rfl) W.heap.size (.slice A8 n c8) n ls (by rfl) (OW8.out.alloc _) (some ⟨_, 0, none⟩) 1 1 [⟨2, 0, 0, 0⟩] rfl (rl_q (HQ8.out.alloc _)) rfl (by omega) (Nat.le_trans HB8.out.size (by simp)) ?_
                  intro A9 c9 w9 hown9 hgrow9 hat9
                  have HB9 : Hid (Below W.heap.size W w9) := (HB8.out.alloc HB8.out.size _).grown hgrow9 (Nat.le_trans HB8.out.size (by simp)) (fun k hk => (OW8.out.lt k hk).1)
                  have OW9 := Lib.hid hown9
                  have HZ9 := Lib.hid (nb_grow hgrow9 (OW8.out.alloc _) (NB.new w8 0 0 0 (.slice none 0 0)))
                  obtain ⟨z90, z91, z92, z93⟩ := HZ9.out.cells
                  obtain ⟨f90, f91, f92, f93⟩ := HZ9.out.frozen
                  have hbw9 := (HB9.out.size)
                  have n90 := (HB9.out.cell (p := ⟨w.heap.size, 0, none⟩) hWl).trans a0
                  have n91 := (HB9.out.cell (p := ⟨w.heap.size, 1, none⟩) hWl).trans a1
                  have n92 := (HB9.out.cell (p := ⟨w.heap.size, 2, none⟩) hWl).trans a2
                  have n93 := (HB9.out.cell (p := ⟨w.heap.size, 3, none⟩) hWl).trans a3
                  have u0a : ¬ w5.heap.size = W.heap.size := by omega
                  have u0b : ¬ W.heap.size = w5.heap.size := by omega
                  have u1a : ¬ w5.heap.size = W.heap.size + 1 := by omega
                  have u1b : ¬ W.heap.size + 1 = w5.heap.size := by omega
                  have u2a : ¬ w5.heap.size = W.heap.size + 1 + 1 := by omega
                  have u2b : ¬ W.heap.size + 1 + 1 = w5.heap.size := by omega
                  have u3a : ¬ w5.heap.size = w8.heap.size := by omega
                  have u3b : ¬ w8.heap.size = w5.heap.size := by omega
                  have u4a : ¬ w5.heap.size = w8.heap.size + 1 := by omega
                  have u4b : ¬ w8.heap.size + 1 = w5.heap.size := by omega
                  have u5a : ¬ w5.heap.size = w9.heap.size := by omega
                  have u5b : ¬ w9.heap.size = w5.heap.size := by omega
                  have y0a : ¬ w.heap.size = W.heap.size := by omega
                  have y0b : ¬ W.heap.size = w.heap.size := by omega
                  have y1a : ¬ w.heap.size = W.heap.size + 1 := by omega
                  have y1b : ¬ W.heap.size + 1 = w.heap.size := by omega
                  have y2a : ¬ w.heap.size = W.heap.size + 1 + 1 := by omega
                  have y2b : ¬ W.heap.size + 1 + 1 = w.heap.size := by omega
                  have y3a : ¬ w.heap.size = w8.heap.size := by omega
                  have y3b : ¬ w8.heap.size = w.heap.size := by omega
                  have y4a : ¬ w.heap.size = w8.heap.size + 1 := by omega
                  have y4b : ¬ w8.heap.size + 1 = w.heap.size := by omega
                  have y5a : ¬ w.heap.size = w9.heap.size := by omega
                  have y5b : ¬ w9.heap.size = w.heap.size := by omega
                  clear hown9 hgrow9 hat9))
              | ((
                  (with_reducible show (if _ = true then Oper.wp Tryd.prog _ _ (w8.alloc (.cells #[.int .i64 2, .int .i64 0, .int .i64 0, .int .i64 0] 42)) _ _ else _))
                  refine step_lay (by rfl) _ _ (by rfl) W.heap.size (.slice A8 n c8) n ls (by rfl) (OW8.out.alloc _) (some ⟨_, 0, none⟩) 1 1 [⟨2, 0, 0, 0⟩] rfl (rl_q (qb_new w8)) rfl (by omega) (Nat.le_trans HB8.out.size (by simp)) ?_
                  intro A9 c9 w9 hown9 hgrow9 hat9
                  have HB9 : Hid (Below W.heap.size W w9) := (HB8.out.alloc HB8.out.size _).grown hgrow9 (Nat.le_trans HB8.out.size (by simp)) (fun k hk => (OW8.out.lt k hk).1)
                  have OW9 := Lib.hid hown9
                  have HZ9 := Lib.hid (nb_grow hgrow9 (OW8.out.alloc _) (HZ8.out.alloc _))
                  obtain ⟨z90, z91, z92, z93⟩ := HZ9.out.cells
                  obtain ⟨f90, f91, f92, f93⟩ := HZ9.out.frozen
                  have hbw9 := (HB9.out.size)
                  have n90 := (HB9.out.cell (p := ⟨w.heap.size, 0, none⟩) hWl).trans a0
                  have n91 := (HB9.out.cell (p := ⟨w.heap.size, 1, none⟩) hWl).trans a1
                  have n92 := (HB9.out.cell (p := ⟨w.heap.size, 2, none⟩) hWl).trans a2
                  have n93 := (HB9.out.cell (p := ⟨w.heap.size, 3, none⟩) hWl).trans a3
                  have u0a : ¬ w5.heap.size = W.heap.size := by omega
                  have u0b : ¬ W.heap.size = w5.heap.size := by omega
                  have u1a : ¬ w5.heap.size = W.heap.size + 1 := by omega
                  have u1b : ¬ W.heap.size + 1 = w5.heap.size := by omega
                  have u2a : ¬ w5.heap.size = W.heap.size + 1 + 1 := by omega
                  have u2b : ¬ W.heap.size + 1 + 1 = w5.heap.size := by omega
                  have u3a : ¬ w5.heap.size = w8.heap.size := by omega
                  have u3b : ¬ w8.heap.size = w5.heap.size := by omega
                  have u4a : ¬ w5.heap.size = w8.heap.size + 1 := by omega
                  have u4b : ¬ w8.heap.size + 1 = w5.heap.size := by omega
                  have u5a : ¬ w5.heap.size = w9.heap.size := by omega
                  have u5b : ¬ w9.heap.size = w5.heap.size := by omega
                  have y0a : ¬ w.heap.size = W.heap.size := by omega
                  have y0b : ¬ W.heap.size = w.heap.size := by omega
                  have y1a : ¬ w.heap.size = W.heap.size + 1 := by omega
                  have y1b : ¬ W.heap.size + 1 = w.heap.size := by omega
                  have y2a : ¬ w.heap.size = W.heap.size + 1 + 1 := by omega
                  have y2b : ¬ W.heap.size + 1 + 1 = w.heap.size := by omega
                  have y3a : ¬ w.heap.size = w8.heap.size := by omega
                  have y3b : ¬ w8.heap.size = w.heap.size := by omega
                  have y4a : ¬ w.heap.size = w8.heap.size + 1 := by omega
                  have y4b : ¬ w8.heap.size + 1 = w.heap.size := by omega
                  have y5a : ¬ w.heap.size = w9.heap.size := by omega
                  have y5b : ¬ w9.heap.size = w.heap.size := by omega
                  clear hown9 hgrow9 hat9))
              | ((
                  (with_reducible show (if _ = true then Oper.wp Tryd.prog _ _ (w8.alloc (.cells #[.int .i64 2, .int .i64 0, .int .i64 0, .int .i64 0] 42)) _ _ else _))
                  refine step_lay (by rfl) _ _ (by rfl) W.heap.size (.slice A8 n c8) n ls (by rfl) (OW8.out.alloc _) (some ⟨_, 0, none⟩) 1 1 [⟨2, 0, 0, 0⟩] rfl (rl_q (qb_new w8)) rfl (by omega) (Nat.le_trans HB8.out.size (by simp)) ?_
                  intro A9 c9 w9 hown9 hgrow9 hat9
                  have HB9 : Hid (Below W.heap.size W w9) := (HB8.out.alloc HB8.out.size _).grown hgrow9 (Nat.le_trans HB8.out.size (by simp)) (fun k hk => (OW8.out.lt k hk).1)
                  have OW9 := Lib.hid hown9
                  have hbw9 := (HB9.out.size)
                  have n90 := (HB9.out.cell (p := ⟨w.heap.size, 0, none⟩) hWl).trans a0
                  have n91 := (HB9.out.cell (p := ⟨w.heap.size, 1, none⟩) hWl).trans a1
                  have n92 := (HB9.out.cell (p := ⟨w.heap.size, 2, none⟩) hWl).trans a2
                  have n93 := (HB9.out.cell (p := ⟨w.heap.size, 3, none⟩) hWl).trans a3
                  have u0a : ¬ w5.heap.size = W.heap.size := by omega
                  have u0b : ¬ W.heap.size = w5.heap.size := by omega
                  have u1a : ¬ w5.heap.size = W.heap.size + 1 := by omega
                  have u1b : ¬ W.heap.size + 1 = w5.heap.size := by omega
                  have u2a : ¬ w5.heap.size = W.heap.size + 1 + 1 := by omega
                  have u2b : ¬ W.heap.size + 1 + 1 = w5.heap.size := by omega
                  have u3a : ¬ w5.heap.size = w8.heap.size := by omega
                  have u3b : ¬ w8.heap.size = w5.heap.size := by omega
                  have u4a : ¬ w5.heap.size = w8.heap.size + 1 := by omega
                  have u4b : ¬ w8.heap.size + 1 = w5.heap.size := by omega
                  have u5a : ¬ w5.heap.size = w9.heap.size := by omega
                  have u5b : ¬ w9.heap.size = w5.heap.size := by omega
                  have y0a : ¬ w.heap.size = W.heap.size := by omega
                  have y0b : ¬ W.heap.size = w.heap.size := by omega
                  have y1a : ¬ w.heap.size = W.heap.size + 1 := by omega
                  have y1b : ¬ W.heap.size + 1 = w.heap.size := by omega
                  have y2a : ¬ w.heap.size = W.heap.size + 1 + 1 := by omega
                  have y2b : ¬ W.heap.size + 1 + 1 = w.heap.size := by omega
                  have y3a : ¬ w.heap.size = w8.heap.size := by omega
                  have y3b : ¬ w8.heap.size = w.heap.size := by omega
                  have y4a : ¬ w.heap.size = w8.heap.size + 1 := by omega
                  have y4b : ¬ w8.heap.size + 1 = w.heap.size := by omega
                  have y5a : ¬ w.heap.size = w9.heap.size := by omega
                  have y5b : ¬ w9.heap.size = w.heap.size := by omega
                  clear hown9 hgrow9 hat9))
              | ((
                  (with_reducible show (if _ = true then Oper.wp Tryd.prog _ _ ((w8.alloc (.cells #[.int .i64 2, .int .i64 0, .int .i64 0, .int .i64 0] 42)).alloc (.cells #[.int .i64 0, .int .i64 0, .int .i64 0, .slice none 0 0] 26)) _ _ else _))
                  refine step_lay (by rfl) _ _ (by rfl) W.heap.size (.slice A8 n c8) n ls (by rfl) ((OW8.out.alloc _).alloc _) (some ⟨_, 0, none⟩) 1 1 [⟨2, 0, 0, 0⟩] rfl (rl_q ((qb_new w8).alloc _)) rfl (by omega) (Nat.le_trans HB8.out.size (by simp <;> omega)) ?_
                  intro A9 c9 w9 hown9 hgrow9 hat9
                  have HB9 : Hid (Below W.heap.size W w9) := ((HB8.out.alloc HB8.out.size _).alloc (Nat.le_trans HB8.out.size (by simp)) _).grown hgrow9 (Nat.le_trans HB8.out.size (by simp <;> omega)) (fun k hk => (OW8.out.lt k hk).1)
                  have OW9 := Lib.hid hown9
                  have HZ9 := Lib.hid (nb_grow hgrow9 ((OW8.out.alloc _).alloc _) (two_new w8 (.cells #[.int .i64 2, .int .i64 0, .int .i64 0, .int .i64 0] 42) (.cells #[.int .i64 0, .int .i64 0, .int .i64 0, .slice none 0 0] 26)))
                  obtain ⟨z90, z91, z92, z93⟩ := HZ9.out.cells
                  obtain ⟨f90, f91, f92, f93⟩ := HZ9.out.frozen
                  have hbw9 := (HB9.out.size)
                  have n90 := (HB9.out.cell (p := ⟨w.heap.size, 0, none⟩) hWl).trans a0
                  have n91 := (HB9.out.cell (p := ⟨w.heap.size, 1, none⟩) hWl).trans a1
                  have n92 := (HB9.out.cell (p := ⟨w.heap.size, 2, none⟩) hWl).trans a2
                  have n93 := (HB9.out.cell (p := ⟨w.heap.size, 3, none⟩) hWl).trans a3
                  have u0a : ¬ w5.heap.size = W.heap.size := by omega
                  have u0b : ¬ W.heap.size = w5.heap.size := by omega
                  have u1a : ¬ w5.heap.size = W.heap.size + 1 := by omega
                  have u1b : ¬ W.heap.size + 1 = w5.heap.size := by omega
                  have u2a : ¬ w5.heap.size = W.heap.size + 1 + 1 := by omega
                  have u2b : ¬ W.heap.size + 1 + 1 = w5.heap.size := by omega
                  have u3a : ¬ w5.heap.size = w8.heap.size := by omega
                  have u3b : ¬ w8.heap.size = w5.heap.size := by omega
                  have u4a : ¬ w5.heap.size = w8.heap.size + 1 := by omega
                  have u4b : ¬ w8.heap.size + 1 = w5.heap.size := by omega
                  have u5a : ¬ w5.heap.size = w9.heap.size := by omega
                  have u5b : ¬ w9.heap.size = w5.heap.size := by omega
                  have y0a : ¬ w.heap.size = W.heap.size := by omega
                  have y0b : ¬ W.heap.size = w.heap.size := by omega
                  have y1a : ¬ w.heap.size = W.heap.size + 1 := by omega
                  have y1b : ¬ W.heap.size + 1 = w.heap.size := by omega
                  have y2a : ¬ w.heap.size = W.heap.size + 1 + 1 := by omega
                  have y2b : ¬ W.heap.size + 1 + 1 = w.heap.size := by omega
                  have y3a : ¬ w.heap.size = w8.heap.size := by omega
                  have y3b : ¬ w8.heap.size = w.heap.size := by omega
                  have y4a : ¬ w.heap.size = w8.heap.size + 1 := by omega
                  have y4b : ¬ w8.heap.size + 1 = w.heap.size := by omega
                  have y5a : ¬ w.heap.size = w9.heap.size := by omega
                  have y5b : ¬ w9.heap.size = w.heap.size := by omega
                  clear hown9 hgrow9 hat9))
              | ((
                  (with_reducible show (if _ = true then Oper.wp Tryd.prog _ _ ((w8.alloc (.cells #[.int .i64 0, .int .i64 0, .int .i64 0, .slice none 0 0] 26)).alloc (.cells #[.int .i64 2, .int .i64 0, .int .i64 0, .int .i64 0] 42)) _ _ else _))
                  refine step_lay (by rfl) _ _ (by rfl) W.heap.size (.slice A8 n c8) n ls (by rfl) ((OW8.out.alloc _).alloc _) (some ⟨_, 0, none⟩) 1 1 [⟨2, 0, 0, 0⟩] rfl (rl_q (qb_new2 w8 (.cells #[.int .i64 0, .int .i64 0, .int .i64 0, .slice none 0 0] 26))) rfl (by omega) (Nat.le_trans HB8.out.size (by simp <;> omega)) ?_
                  intro A9 c9 w9 hown9 hgrow9 hat9
                  have HB9 : Hid (Below W.heap.size W w9) := ((HB8.out.alloc HB8.out.size _).alloc (Nat.le_trans HB8.out.size (by simp)) _).grown hgrow9 (Nat.le_trans HB8.out.size (by simp <;> omega)) (fun k hk => (OW8.out.lt k hk).1)
                  have OW9 := Lib.hid hown9
                  have HZ9 := Lib.hid (nb_grow hgrow9 ((OW8.out.alloc _).alloc _) ((NB.new w8 0 0 0 (.slice none 0 0)).alloc _))
                  obtain ⟨z90, z91, z92, z93⟩ := HZ9.out.cells
                  obtain ⟨f90, f91, f92, f93⟩ := HZ9.out.frozen
                  have hbw9 := (HB9.out.size)
                  have n90 := (HB9.out.cell (p := ⟨w.heap.size, 0, none⟩) hWl).trans a0
                  have n91 := (HB9.out.cell (p := ⟨w.heap.size, 1, none⟩) hWl).trans a1
                  have n92 := (HB9.out.cell (p := ⟨w.heap.size, 2, none⟩) hWl).trans a2
                  have n93 := (HB9.out.cell (p := ⟨w.heap.size, 3, none⟩) hWl).trans a3
                  have u0a : ¬ w5.heap.size = W.heap.size := by omega
                  have u0b : ¬ W.heap.size = w5.heap.size := by omega
                  have u1a : ¬ w5.heap.size = W.heap.size + 1 := by omega
                  have u1b : ¬ W.heap.size + 1 = w5.heap.size := by omega
                  have u2a : ¬ w5.heap.size = W.heap.size + 1 + 1 := by omega
                  have u2b : ¬ W.heap.size + 1 + 1 = w5.heap.size := by omega
                  have u3a : ¬ w5.heap.size = w8.heap.size := by omega
                  have u3b : ¬ w8.heap.size = w5.heap.size := by omega
                  have u4a : ¬ w5.heap.size = w8.heap.size + 1 := by omega
                  have u4b : ¬ w8.heap.size + 1 = w5.heap.size := by omega
                  have u5a : ¬ w5.heap.size = w9.heap.size := by omega
                  have u5b : ¬ w9.heap.size = w5.heap.size := by omega
                  have y0a : ¬ w.heap.size = W.heap.size := by omega
                  have y0b : ¬ W.heap.size = w.heap.size := by omega
                  have y1a : ¬ w.heap.size = W.heap.size + 1 := by omega
                  have y1b : ¬ W.heap.size + 1 = w.heap.size := by omega
                  have y2a : ¬ w.heap.size = W.heap.size + 1 + 1 := by omega
                  have y2b : ¬ W.heap.size + 1 + 1 = w.heap.size := by omega
                  have y3a : ¬ w.heap.size = w8.heap.size := by omega
                  have y3b : ¬ w8.heap.size = w.heap.size := by omega
                  have y4a : ¬ w.heap.size = w8.heap.size + 1 := by omega
                  have y4b : ¬ w8.heap.size + 1 = w.heap.size := by omega
                  have y5a : ¬ w.heap.size = w9.heap.size := by omega
                  have y5b : ¬ w9.heap.size = w.heap.size := by omega
                  clear hown9 hgrow9 hat9))
              | fail)
          all_goals
            have c90 := (HB9.out.cell (p := ⟨w5.heap.size, 0, none⟩) hl5).trans b0
            have c91 := (HB9.out.cell (p := ⟨w5.heap.size, 1, none⟩) hl5).trans b1
            have c92 := (HB9.out.cell (p := ⟨w5.heap.size, 2, none⟩) hl5).trans b2
            have c93 := (HB9.out.cell (p := ⟨w5.heap.size, 3, none⟩) hl5).trans b3
            have e0a : w5.heap.size < w9.heap.size := by omega
            go_wp2_with fail
            refine Calls.mono (same_any c h x A5 A9 k5 c9 n5 (n + 1) (ls ++ [⟨2, 0, 0, 0⟩]) (ls ++ [⟨2, 0, 0, 0⟩]) _ ?_ ?_ LN5.out HLEN.out (by omega) rfl) ?_
            · first
                | exact RM.out.below (made_new (c := c) (h := h) (x := x) HB9.out OW9.out HLEN.out).1
                | exact RM.out.below (made_set (c := c) (h := h) (x := x) HB9.out (by omega) OW9.out HLEN.out HZ9.out).1
            · first
                | exact (made_new (c := c) (h := h) (x := x) HB9.out OW9.out HLEN.out).2.2
                | exact (made_set (c := c) (h := h) (x := x) HB9.out (by omega) OW9.out HLEN.out HZ9.out).2.2
            rintro e w10 ⟨rfl, hb⟩
            have S10 : Hid (Below w.heap.size w w10) := by
              first
                | exact S7.out.1.trans (((made_new (c := c) (h := h) (x := x) HB9.out OW9.out HLEN.out).1.trans (hb.mono (made_new (c := c) (h := h) (x := x) HB9.out OW9.out HLEN.out).1.size)).mono S7.out.1.size)
                | exact S7.out.1.trans (((made_set (c := c) (h := h) (x := x) HB9.out (by omega) OW9.out HLEN.out HZ9.out).1.trans (hb.mono (made_set (c := c) (h := h) (x := x) HB9.out (by omega) OW9.out HLEN.out HZ9.out).1.size)).mono S7.out.1.size)
            clear hb
            go_wp2_with fail
            go_ret
            exact ⟨rfl, S10.out⟩
      · have d0 : decide ((900 : Int) < (s.size : Int)) = true := by simp; omega
        have d1 : decide (900 < s.size) = true := by simp; omega
        go_wp2_with fail
        go_ret
        exact ⟨rfl, S3.out.1⟩
  · go_wp2_with fail
    refine (great_yes c h x A cA n _ (by omega)).mono ?_
    rintro e w2 ⟨rfl, hb⟩
    have S2 := Lib.hid (S1.out.below hb)
    clear hb S1 N1 a0 a1 a2 a3
    go_wp2_with fail
    go_ret
    exact ⟨rfl, S2.out.1⟩

end Go.Proofs.YtmlflmlgjjjmfaaDoor
