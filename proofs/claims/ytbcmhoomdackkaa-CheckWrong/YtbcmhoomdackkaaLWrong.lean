/-
  CheckWrong: with a layer more a network is as wrong as it was, or full, or right.
-/
import Derived.Test.YtbcmhoomdackkaaAppendL
import Derived.Test.YtbcmhoomdackkaaRForm2
import Derived.Test.YtbcmhoomdackkaaRefS
import Derived.Deep.DeepCutAuto
namespace Go.Proofs.Ytbcmhoomdackkaa
open Go.RowKit

theorem wr_form {N : Nt} (f : formB N = false) : errN N = 12 := if_pos f
theorem wr_arg {c h x : Int} {ls : List Ly} (f : formB ⟨c, h, x, ls⟩ = true) (r : rightB c h x = false) : errN ⟨c, h, x, ls⟩ = 1 := by
  unfold errN
  rw [if_neg (by rw [f]; decide)]
  exact if_pos r
theorem rform_is (c h x : Int) (A : Option Addr) (cA n : Nat) (ls : List Ly) (f : Bool) (hf : formB ⟨c, h, x, ls⟩ = f) (w : World) (hx : Rl w A ls) (ln : n = ls.length) (hn : n ≤ 1000) :
    Calls Try.prog 22 #[.agg #[.int .i64 c, .int .i64 h, .int .i64 x, .slice A n cA]] w fun e w' => e = .returned (.bool f) ∧ Below w.heap.size w w' := by
  subst hf
  exact rform_any c h x A cA n ls w hx ln hn
theorem NB.frozen {w : World} {b : Nat} {c h x : Int} {v : Value} (H : NB w b c h x v) : w.frozen? ⟨b, 0, none⟩ = false ∧ w.frozen? ⟨b, 1, none⟩ = false ∧ w.frozen? ⟨b, 2, none⟩ = false ∧ w.frozen? ⟨b, 3, none⟩ = false :=
  ⟨Lib.frozen_of_heap H 0, Lib.frozen_of_heap H 1, Lib.frozen_of_heap H 2, Lib.frozen_of_heap H 3⟩
theorem QB.lt {w : World} {g : Nat} {l : Ly} (h : QB w g l) : g < w.heap.size := (Array.getElem?_eq_some_iff.1 h).1
theorem QB.below {w w' : World} {g : Nat} {l : Ly} (h : QB w g l) (hb : Below w.heap.size w w') : QB w' g l := (hb.block g h.lt).trans h
theorem QB.cells {w : World} {g : Nat} {l : Ly} (h : QB w g l) : w.cell? ⟨g, 0, none⟩ = some (.int .i64 l.k) ∧ w.cell? ⟨g, 1, none⟩ = some (.int .i64 l.o) ∧ w.cell? ⟨g, 2, none⟩ = some (.int .i64 l.s) ∧ w.cell? ⟨g, 3, none⟩ = some (.int .i64 l.t) := by
  rw [Lib.cell_of_heap h, Lib.cell_of_heap h, Lib.cell_of_heap h, Lib.cell_of_heap h]
  exact ⟨rfl, rfl, rfl, rfl⟩

set_option maxHeartbeats 200000000 in
set_option maxRecDepth 100000 in
theorem law_wrong (c h x : Int) (A : Option Addr) (cA n : Nat) (ls : List Ly) (k o s t : Int) (w : World) (hx : Rl w A ls) (ln : n = ls.length) :
    Calls Try.prog 5 #[.agg #[.int .i64 c, .int .i64 h, .int .i64 x, .slice A n cA], .agg #[.int .i64 k, .int .i64 o, .int .i64 s, .int .i64 t]] w fun e w' => e = .returned (.bool true) ∧ Below w.heap.size w w' := by
  have HX := Lib.hid hx; have LX := Lib.hid ln
  clear hx ln
  go_enter Try.func5, Try.ntmps5
  go_wp2_with fail
  refine (head_any _).mono ?_
  rintro e w1 ⟨rfl, hb⟩
  have B1 := Lib.hid (chain (chain_alloc ((Below.refl w.heap.size w).alloc (Nat.le_refl _) _) _) hb)
  have hN := ((NB.new w c h x (.slice A n cA)).alloc _).below hb
  have N1 := Lib.hid hN
  have Q1 := Lib.hid ((qb_new2 w (.cells #[.int .i64 c, .int .i64 h, .int .i64 x, .slice A n cA] 26) k o s t).below hb)
  obtain ⟨c0, c1, c2, c3⟩ := hN.cells
  clear hb hN
  by_cases hg : 60 < n
  · have d : decide (60 < (n : Int)) = true := by simp; omega
    go_wp2_with fail
    refine (great_any c h x A cA n _ true d).mono ?_
    rintro e w2 ⟨rfl, hb⟩
    have B2 := Lib.hid (chain B1.out hb)
    clear hb
    go_wp2_with fail
    go_ret
    exact ⟨rfl, B2.out⟩
  have d : decide (60 < (n : Int)) = false := by simp; omega
  have hn : n ≤ 60 := by omega
  have hn1 : n ≤ 1000 := by omega
  go_wp2_with fail
  refine (great_any c h x A cA n _ false d).mono ?_
  rintro e W ⟨rfl, hb⟩
  have B2 := Lib.hid (chain B1.out hb)
  have N2 := Lib.hid (N1.out.below hb)
  have Q2 := Lib.hid (Q1.out.below hb)
  clear hb B1 N1 Q1 c0 c1 c2 c3 hg d
  have HRn := Lib.hid (HX.out.below B2.out)
  obtain ⟨a0, a1, a2, a3⟩ := N2.out.cells
  obtain ⟨b0, b1, b2, b3⟩ := Q2.out.cells
  simp only at b0 b1 b2 b3
  have hWl := N2.out.lt
  have hWm := Q2.out.lt
  have v0a : ¬ w.heap.size = W.heap.size := by omega
  have v0b : ¬ W.heap.size = w.heap.size := by omega
  have v1a : ¬ w.heap.size = W.heap.size + 1 := by omega
  have v1b : ¬ W.heap.size + 1 = w.heap.size := by omega
  have v2a : ¬ w.heap.size = W.heap.size + 1 + 1 := by omega
  have v2b : ¬ W.heap.size + 1 + 1 = w.heap.size := by omega
  have v9a : w.heap.size < W.heap.size + 1 := by omega
  have v9b : w.heap.size < W.heap.size + 1 + 1 := by omega
  have p0a : ¬ w.heap.size + 1 = W.heap.size := by omega
  have p0b : ¬ W.heap.size = w.heap.size + 1 := by omega
  have p1a : ¬ w.heap.size + 1 = W.heap.size + 1 := by omega
  have p1b : ¬ W.heap.size + 1 = w.heap.size + 1 := by omega
  have p2a : ¬ w.heap.size + 1 = W.heap.size + 1 + 1 := by omega
  have p2b : ¬ W.heap.size + 1 + 1 = w.heap.size + 1 := by omega
  have p9a : w.heap.size + 1 < W.heap.size + 1 := by omega
  have p9b : w.heap.size + 1 < W.heap.size + 1 + 1 := by omega
  have hlen9 : n + 1 = (ls ++ [(⟨k, o, s, t⟩ : Ly)]).length := by rw [List.length_append, ← LX.out]; rfl
  have HLEN := Lib.hid hlen9
  clear hlen9
  go_upto_region 4 with fail
  go_cut [6] (fun s6 wx => ∃ (z : Nat) (A9 : Option Addr) (c9 : Nat), s6 = .pointer (some ⟨z, 0, none⟩) ∧ Made W wx z c h x A9 (n + 1) c9 (ls ++ [⟨k, o, s, t⟩]))
  case first =>
    go_wp2_with fail
    have K3 : Hid (∀ o1 o2 o3 : Obj, (((W.alloc o1).alloc o2).alloc o3).drew.cell? ⟨w.heap.size, 0, none⟩ = some (.int .i64 c) ∧ (((W.alloc o1).alloc o2).alloc o3).drew.cell? ⟨w.heap.size, 1, none⟩ = some (.int .i64 h) ∧ (((W.alloc o1).alloc o2).alloc o3).drew.cell? ⟨w.heap.size, 2, none⟩ = some (.int .i64 x) ∧ (((W.alloc o1).alloc o2).alloc o3).drew.cell? ⟨w.heap.size, 3, none⟩ = some (.slice A n cA) ∧ (((W.alloc o1).alloc o2).alloc o3).drew.cell? ⟨w.heap.size + 1, 0, none⟩ = some (.int .i64 k) ∧ (((W.alloc o1).alloc o2).alloc o3).drew.cell? ⟨w.heap.size + 1, 1, none⟩ = some (.int .i64 o) ∧ (((W.alloc o1).alloc o2).alloc o3).drew.cell? ⟨w.heap.size + 1, 2, none⟩ = some (.int .i64 s) ∧ (((W.alloc o1).alloc o2).alloc o3).drew.cell? ⟨w.heap.size + 1, 3, none⟩ = some (.int .i64 t)) := fun o1 o2 o3 => ⟨((news3 W o1 o2 o3).cell (p := ⟨w.heap.size, 0, none⟩) hWl).trans a0, ((news3 W o1 o2 o3).cell (p := ⟨w.heap.size, 1, none⟩) hWl).trans a1, ((news3 W o1 o2 o3).cell (p := ⟨w.heap.size, 2, none⟩) hWl).trans a2, ((news3 W o1 o2 o3).cell (p := ⟨w.heap.size, 3, none⟩) hWl).trans a3, ((news3 W o1 o2 o3).cell (p := ⟨w.heap.size + 1, 0, none⟩) hWm).trans b0, ((news3 W o1 o2 o3).cell (p := ⟨w.heap.size + 1, 1, none⟩) hWm).trans b1, ((news3 W o1 o2 o3).cell (p := ⟨w.heap.size + 1, 2, none⟩) hWm).trans b2, ((news3 W o1 o2 o3).cell (p := ⟨w.heap.size + 1, 3, none⟩) hWm).trans b3⟩
    go_region_held3 (fun w' => w'.cell? ⟨w.heap.size, 0, none⟩ = some (.int .i64 c) ∧ w'.cell? ⟨w.heap.size, 1, none⟩ = some (.int .i64 h) ∧ w'.cell? ⟨w.heap.size, 2, none⟩ = some (.int .i64 x) ∧ w'.cell? ⟨w.heap.size, 3, none⟩ = some (.slice A n cA) ∧ w'.cell? ⟨w.heap.size + 1, 0, none⟩ = some (.int .i64 k) ∧ w'.cell? ⟨w.heap.size + 1, 1, none⟩ = some (.int .i64 o) ∧ w'.cell? ⟨w.heap.size + 1, 2, none⟩ = some (.int .i64 s) ∧ w'.cell? ⟨w.heap.size + 1, 3, none⟩ = some (.int .i64 t))
      (first | exact ⟨n90, n91, n92, n93, m90, m91, m92, m93⟩ | exact ⟨n80, n81, n82, n83, m80, m81, m82, m83⟩ | (with_reducible exact K3.out _ _ _) | go_keep)
      (first
        | ((
            (with_reducible show (if _ = true then Oper.wp Try.prog _ _ (W.alloc (.cells #[] 40)).drew _ _ else _))
            refine step_lay0 (by rfl) _ _ (by rfl) W.heap.size (.slice (some ⟨W.heap.size, 0, none⟩) 0 0) (by rfl) (void1 W 40 4 ) A n cA ls (by rfl) (HRn.out.below (news1 W (.cells #[] 40))) LX.out (by omega) (news1 W (.cells #[] 40)).size ?_
            intro A8 c8 w8 hown8 hgrow8
            have HB8 : Hid (Below W.heap.size W w8) := (news1 W (.cells #[] 40)).grown hgrow8 (news1 W (.cells #[] 40)).size (fun q hk => by simp [Value.ownBlock] at hk; omega)
            have OW8 := Lib.hid hown8
            have hbw8 := (HB8.out.size)
            have n80 := (HB8.out.cell (p := ⟨w.heap.size, 0, none⟩) hWl).trans a0
            have n81 := (HB8.out.cell (p := ⟨w.heap.size, 1, none⟩) hWl).trans a1
            have n82 := (HB8.out.cell (p := ⟨w.heap.size, 2, none⟩) hWl).trans a2
            have n83 := (HB8.out.cell (p := ⟨w.heap.size, 3, none⟩) hWl).trans a3
            have m80 := (HB8.out.cell (p := ⟨w.heap.size + 1, 0, none⟩) hWm).trans b0
            have m81 := (HB8.out.cell (p := ⟨w.heap.size + 1, 1, none⟩) hWm).trans b1
            have m82 := (HB8.out.cell (p := ⟨w.heap.size + 1, 2, none⟩) hWm).trans b2
            have m83 := (HB8.out.cell (p := ⟨w.heap.size + 1, 3, none⟩) hWm).trans b3
            clear hown8 hgrow8))
        | ((
            (with_reducible show (if _ = true then Oper.wp Try.prog _ _ ((W.alloc (.cells #[] 40)).alloc (.cells #[.int .i64 k, .int .i64 o, .int .i64 s, .int .i64 t] 40)).drew _ _ else _))
            refine step_lay0 (by rfl) _ _ (by rfl) W.heap.size (.slice (some ⟨W.heap.size, 0, none⟩) 0 0) (by rfl) (void2a W 40 4 (.cells #[.int .i64 k, .int .i64 o, .int .i64 s, .int .i64 t] 40)) A n cA ls (by rfl) (HRn.out.below (news2 W (.cells #[] 40) (.cells #[.int .i64 k, .int .i64 o, .int .i64 s, .int .i64 t] 40))) LX.out (by omega) (news2 W (.cells #[] 40) (.cells #[.int .i64 k, .int .i64 o, .int .i64 s, .int .i64 t] 40)).size ?_
            intro A8 c8 w8 hown8 hgrow8
            have HB8 : Hid (Below W.heap.size W w8) := (news2 W (.cells #[] 40) (.cells #[.int .i64 k, .int .i64 o, .int .i64 s, .int .i64 t] 40)).grown hgrow8 (news2 W (.cells #[] 40) (.cells #[.int .i64 k, .int .i64 o, .int .i64 s, .int .i64 t] 40)).size (fun q hk => by simp [Value.ownBlock] at hk; omega)
            have OW8 := Lib.hid hown8
            have HQ8 : Hid (QB w8 (W.heap.size + 1) ⟨k, o, s, t⟩) := qb_grow hgrow8 (two_new W (.cells #[] 40) (.cells #[.int .i64 k, .int .i64 o, .int .i64 s, .int .i64 t] 40)) (by omega)
            have hbw8 := (HB8.out.size)
            have n80 := (HB8.out.cell (p := ⟨w.heap.size, 0, none⟩) hWl).trans a0
            have n81 := (HB8.out.cell (p := ⟨w.heap.size, 1, none⟩) hWl).trans a1
            have n82 := (HB8.out.cell (p := ⟨w.heap.size, 2, none⟩) hWl).trans a2
            have n83 := (HB8.out.cell (p := ⟨w.heap.size, 3, none⟩) hWl).trans a3
            have m80 := (HB8.out.cell (p := ⟨w.heap.size + 1, 0, none⟩) hWm).trans b0
            have m81 := (HB8.out.cell (p := ⟨w.heap.size + 1, 1, none⟩) hWm).trans b1
            have m82 := (HB8.out.cell (p := ⟨w.heap.size + 1, 2, none⟩) hWm).trans b2
            have m83 := (HB8.out.cell (p := ⟨w.heap.size + 1, 3, none⟩) hWm).trans b3
            clear hown8 hgrow8))
        | ((
            (with_reducible show (if _ = true then Oper.wp Try.prog _ _ ((W.alloc (.cells #[.int .i64 k, .int .i64 o, .int .i64 s, .int .i64 t] 40)).alloc (.cells #[] 40)).drew _ _ else _))
            refine step_lay0 (by rfl) _ _ (by rfl) W.heap.size (.slice (some ⟨W.heap.size + 1, 0, none⟩) 0 0) (by rfl) (void2b W 40 4 (.cells #[.int .i64 k, .int .i64 o, .int .i64 s, .int .i64 t] 40)) A n cA ls (by rfl) (HRn.out.below (news2 W (.cells #[.int .i64 k, .int .i64 o, .int .i64 s, .int .i64 t] 40) (.cells #[] 40))) LX.out (by omega) (news2 W (.cells #[.int .i64 k, .int .i64 o, .int .i64 s, .int .i64 t] 40) (.cells #[] 40)).size ?_
            intro A8 c8 w8 hown8 hgrow8
            have HB8 : Hid (Below W.heap.size W w8) := (news2 W (.cells #[.int .i64 k, .int .i64 o, .int .i64 s, .int .i64 t] 40) (.cells #[] 40)).grown hgrow8 (news2 W (.cells #[.int .i64 k, .int .i64 o, .int .i64 s, .int .i64 t] 40) (.cells #[] 40)).size (fun q hk => by simp [Value.ownBlock] at hk; omega)
            have OW8 := Lib.hid hown8
            have HQ8 : Hid (QB w8 (W.heap.size) ⟨k, o, s, t⟩) := qb_grow hgrow8 (two_old W (.cells #[.int .i64 k, .int .i64 o, .int .i64 s, .int .i64 t] 40) (.cells #[] 40)) (by omega)
            have hbw8 := (HB8.out.size)
            have n80 := (HB8.out.cell (p := ⟨w.heap.size, 0, none⟩) hWl).trans a0
            have n81 := (HB8.out.cell (p := ⟨w.heap.size, 1, none⟩) hWl).trans a1
            have n82 := (HB8.out.cell (p := ⟨w.heap.size, 2, none⟩) hWl).trans a2
            have n83 := (HB8.out.cell (p := ⟨w.heap.size, 3, none⟩) hWl).trans a3
            have m80 := (HB8.out.cell (p := ⟨w.heap.size + 1, 0, none⟩) hWm).trans b0
            have m81 := (HB8.out.cell (p := ⟨w.heap.size + 1, 1, none⟩) hWm).trans b1
            have m82 := (HB8.out.cell (p := ⟨w.heap.size + 1, 2, none⟩) hWm).trans b2
            have m83 := (HB8.out.cell (p := ⟨w.heap.size + 1, 3, none⟩) hWm).trans b3
            clear hown8 hgrow8))
        | ((
            (with_reducible show (if _ = true then Oper.wp Try.prog _ _ ((W.alloc (.cells #[] 40)).alloc (.cells #[.int .i64 0, .int .i64 0, .int .i64 0, .slice none 0 0] 26)).drew _ _ else _))
            refine step_lay0 (by rfl) _ _ (by rfl) W.heap.size (.slice (some ⟨W.heap.size, 0, none⟩) 0 0) (by rfl) (void2a W 40 4 (.cells #[.int .i64 0, .int .i64 0, .int .i64 0, .slice none 0 0] 26)) A n cA ls (by rfl) (HRn.out.below (news2 W (.cells #[] 40) (.cells #[.int .i64 0, .int .i64 0, .int .i64 0, .slice none 0 0] 26))) LX.out (by omega) (news2 W (.cells #[] 40) (.cells #[.int .i64 0, .int .i64 0, .int .i64 0, .slice none 0 0] 26)).size ?_
            intro A8 c8 w8 hown8 hgrow8
            have HB8 : Hid (Below W.heap.size W w8) := (news2 W (.cells #[] 40) (.cells #[.int .i64 0, .int .i64 0, .int .i64 0, .slice none 0 0] 26)).grown hgrow8 (news2 W (.cells #[] 40) (.cells #[.int .i64 0, .int .i64 0, .int .i64 0, .slice none 0 0] 26)).size (fun q hk => by simp [Value.ownBlock] at hk; omega)
            have OW8 := Lib.hid hown8
            have HZ8 : Hid (NB w8 (W.heap.size + 1) 0 0 0 (.slice none 0 0)) := nb_grow hgrow8 (void2a W 40 4 (.cells #[.int .i64 0, .int .i64 0, .int .i64 0, .slice none 0 0] 26)) (two_new W (.cells #[] 40) (.cells #[.int .i64 0, .int .i64 0, .int .i64 0, .slice none 0 0] 26))
            have hbw8 := (HB8.out.size)
            have n80 := (HB8.out.cell (p := ⟨w.heap.size, 0, none⟩) hWl).trans a0
            have n81 := (HB8.out.cell (p := ⟨w.heap.size, 1, none⟩) hWl).trans a1
            have n82 := (HB8.out.cell (p := ⟨w.heap.size, 2, none⟩) hWl).trans a2
            have n83 := (HB8.out.cell (p := ⟨w.heap.size, 3, none⟩) hWl).trans a3
            have m80 := (HB8.out.cell (p := ⟨w.heap.size + 1, 0, none⟩) hWm).trans b0
            have m81 := (HB8.out.cell (p := ⟨w.heap.size + 1, 1, none⟩) hWm).trans b1
            have m82 := (HB8.out.cell (p := ⟨w.heap.size + 1, 2, none⟩) hWm).trans b2
            have m83 := (HB8.out.cell (p := ⟨w.heap.size + 1, 3, none⟩) hWm).trans b3
            clear hown8 hgrow8))
        | ((
            (with_reducible show (if _ = true then Oper.wp Try.prog _ _ ((W.alloc (.cells #[.int .i64 0, .int .i64 0, .int .i64 0, .slice none 0 0] 26)).alloc (.cells #[] 40)).drew _ _ else _))
            refine step_lay0 (by rfl) _ _ (by rfl) W.heap.size (.slice (some ⟨W.heap.size + 1, 0, none⟩) 0 0) (by rfl) (void2b W 40 4 (.cells #[.int .i64 0, .int .i64 0, .int .i64 0, .slice none 0 0] 26)) A n cA ls (by rfl) (HRn.out.below (news2 W (.cells #[.int .i64 0, .int .i64 0, .int .i64 0, .slice none 0 0] 26) (.cells #[] 40))) LX.out (by omega) (news2 W (.cells #[.int .i64 0, .int .i64 0, .int .i64 0, .slice none 0 0] 26) (.cells #[] 40)).size ?_
            intro A8 c8 w8 hown8 hgrow8
            have HB8 : Hid (Below W.heap.size W w8) := (news2 W (.cells #[.int .i64 0, .int .i64 0, .int .i64 0, .slice none 0 0] 26) (.cells #[] 40)).grown hgrow8 (news2 W (.cells #[.int .i64 0, .int .i64 0, .int .i64 0, .slice none 0 0] 26) (.cells #[] 40)).size (fun q hk => by simp [Value.ownBlock] at hk; omega)
            have OW8 := Lib.hid hown8
            have HZ8 : Hid (NB w8 (W.heap.size) 0 0 0 (.slice none 0 0)) := nb_grow hgrow8 (void2b W 40 4 (.cells #[.int .i64 0, .int .i64 0, .int .i64 0, .slice none 0 0] 26)) (two_old W (.cells #[.int .i64 0, .int .i64 0, .int .i64 0, .slice none 0 0] 26) (.cells #[] 40))
            have hbw8 := (HB8.out.size)
            have n80 := (HB8.out.cell (p := ⟨w.heap.size, 0, none⟩) hWl).trans a0
            have n81 := (HB8.out.cell (p := ⟨w.heap.size, 1, none⟩) hWl).trans a1
            have n82 := (HB8.out.cell (p := ⟨w.heap.size, 2, none⟩) hWl).trans a2
            have n83 := (HB8.out.cell (p := ⟨w.heap.size, 3, none⟩) hWl).trans a3
            have m80 := (HB8.out.cell (p := ⟨w.heap.size + 1, 0, none⟩) hWm).trans b0
            have m81 := (HB8.out.cell (p := ⟨w.heap.size + 1, 1, none⟩) hWm).trans b1
            have m82 := (HB8.out.cell (p := ⟨w.heap.size + 1, 2, none⟩) hWm).trans b2
            have m83 := (HB8.out.cell (p := ⟨w.heap.size + 1, 3, none⟩) hWm).trans b3
            clear hown8 hgrow8))
        | ((
            (with_reducible show (if _ = true then Oper.wp Try.prog _ _ (((W.alloc (.cells #[] 40)).alloc (.cells #[.int .i64 k, .int .i64 o, .int .i64 s, .int .i64 t] 40)).alloc (.cells #[.int .i64 0, .int .i64 0, .int .i64 0, .slice none 0 0] 26)).drew _ _ else _))
            refine step_lay0 (by rfl) _ _ (by rfl) W.heap.size (.slice (some ⟨W.heap.size, 0, none⟩) 0 0) (by rfl) (void3a W 40 4 (.cells #[.int .i64 k, .int .i64 o, .int .i64 s, .int .i64 t] 40) (.cells #[.int .i64 0, .int .i64 0, .int .i64 0, .slice none 0 0] 26)) A n cA ls (by rfl) (HRn.out.below (news3 W (.cells #[] 40) (.cells #[.int .i64 k, .int .i64 o, .int .i64 s, .int .i64 t] 40) (.cells #[.int .i64 0, .int .i64 0, .int .i64 0, .slice none 0 0] 26))) LX.out (by omega) (news3 W (.cells #[] 40) (.cells #[.int .i64 k, .int .i64 o, .int .i64 s, .int .i64 t] 40) (.cells #[.int .i64 0, .int .i64 0, .int .i64 0, .slice none 0 0] 26)).size ?_
            intro A8 c8 w8 hown8 hgrow8
            have HB8 : Hid (Below W.heap.size W w8) := (news3 W (.cells #[] 40) (.cells #[.int .i64 k, .int .i64 o, .int .i64 s, .int .i64 t] 40) (.cells #[.int .i64 0, .int .i64 0, .int .i64 0, .slice none 0 0] 26)).grown hgrow8 (news3 W (.cells #[] 40) (.cells #[.int .i64 k, .int .i64 o, .int .i64 s, .int .i64 t] 40) (.cells #[.int .i64 0, .int .i64 0, .int .i64 0, .slice none 0 0] 26)).size (fun q hk => by simp [Value.ownBlock] at hk; omega)
            have OW8 := Lib.hid hown8
            have HQ8 : Hid (QB w8 (W.heap.size + 1) ⟨k, o, s, t⟩) := qb_grow hgrow8 (three_mid W (.cells #[] 40) (.cells #[.int .i64 k, .int .i64 o, .int .i64 s, .int .i64 t] 40) (.cells #[.int .i64 0, .int .i64 0, .int .i64 0, .slice none 0 0] 26)) (by omega)
            have HZ8 : Hid (NB w8 (W.heap.size + 1 + 1) 0 0 0 (.slice none 0 0)) := nb_grow hgrow8 (void3a W 40 4 (.cells #[.int .i64 k, .int .i64 o, .int .i64 s, .int .i64 t] 40) (.cells #[.int .i64 0, .int .i64 0, .int .i64 0, .slice none 0 0] 26)) (three_new W (.cells #[] 40) (.cells #[.int .i64 k, .int .i64 o, .int .i64 s, .int .i64 t] 40) (.cells #[.int .i64 0, .int .i64 0, .int .i64 0, .slice none 0 0] 26))
            have hbw8 := (HB8.out.size)
            have n80 := (HB8.out.cell (p := ⟨w.heap.size, 0, none⟩) hWl).trans a0
            have n81 := (HB8.out.cell (p := ⟨w.heap.size, 1, none⟩) hWl).trans a1
            have n82 := (HB8.out.cell (p := ⟨w.heap.size, 2, none⟩) hWl).trans a2
            have n83 := (HB8.out.cell (p := ⟨w.heap.size, 3, none⟩) hWl).trans a3
            have m80 := (HB8.out.cell (p := ⟨w.heap.size + 1, 0, none⟩) hWm).trans b0
            have m81 := (HB8.out.cell (p := ⟨w.heap.size + 1, 1, none⟩) hWm).trans b1
            have m82 := (HB8.out.cell (p := ⟨w.heap.size + 1, 2, none⟩) hWm).trans b2
            have m83 := (HB8.out.cell (p := ⟨w.heap.size + 1, 3, none⟩) hWm).trans b3
            clear hown8 hgrow8))
        | ((
            (with_reducible show (if _ = true then Oper.wp Try.prog _ _ (((W.alloc (.cells #[] 40)).alloc (.cells #[.int .i64 0, .int .i64 0, .int .i64 0, .slice none 0 0] 26)).alloc (.cells #[.int .i64 k, .int .i64 o, .int .i64 s, .int .i64 t] 40)).drew _ _ else _))
            refine step_lay0 (by rfl) _ _ (by rfl) W.heap.size (.slice (some ⟨W.heap.size, 0, none⟩) 0 0) (by rfl) (void3a W 40 4 (.cells #[.int .i64 0, .int .i64 0, .int .i64 0, .slice none 0 0] 26) (.cells #[.int .i64 k, .int .i64 o, .int .i64 s, .int .i64 t] 40)) A n cA ls (by rfl) (HRn.out.below (news3 W (.cells #[] 40) (.cells #[.int .i64 0, .int .i64 0, .int .i64 0, .slice none 0 0] 26) (.cells #[.int .i64 k, .int .i64 o, .int .i64 s, .int .i64 t] 40))) LX.out (by omega) (news3 W (.cells #[] 40) (.cells #[.int .i64 0, .int .i64 0, .int .i64 0, .slice none 0 0] 26) (.cells #[.int .i64 k, .int .i64 o, .int .i64 s, .int .i64 t] 40)).size ?_
            intro A8 c8 w8 hown8 hgrow8
            have HB8 : Hid (Below W.heap.size W w8) := (news3 W (.cells #[] 40) (.cells #[.int .i64 0, .int .i64 0, .int .i64 0, .slice none 0 0] 26) (.cells #[.int .i64 k, .int .i64 o, .int .i64 s, .int .i64 t] 40)).grown hgrow8 (news3 W (.cells #[] 40) (.cells #[.int .i64 0, .int .i64 0, .int .i64 0, .slice none 0 0] 26) (.cells #[.int .i64 k, .int .i64 o, .int .i64 s, .int .i64 t] 40)).size (fun q hk => by simp [Value.ownBlock] at hk; omega)
            have OW8 := Lib.hid hown8
            have HQ8 : Hid (QB w8 (W.heap.size + 1 + 1) ⟨k, o, s, t⟩) := qb_grow hgrow8 (three_new W (.cells #[] 40) (.cells #[.int .i64 0, .int .i64 0, .int .i64 0, .slice none 0 0] 26) (.cells #[.int .i64 k, .int .i64 o, .int .i64 s, .int .i64 t] 40)) (by omega)
            have HZ8 : Hid (NB w8 (W.heap.size + 1) 0 0 0 (.slice none 0 0)) := nb_grow hgrow8 (void3a W 40 4 (.cells #[.int .i64 0, .int .i64 0, .int .i64 0, .slice none 0 0] 26) (.cells #[.int .i64 k, .int .i64 o, .int .i64 s, .int .i64 t] 40)) (three_mid W (.cells #[] 40) (.cells #[.int .i64 0, .int .i64 0, .int .i64 0, .slice none 0 0] 26) (.cells #[.int .i64 k, .int .i64 o, .int .i64 s, .int .i64 t] 40))
            have hbw8 := (HB8.out.size)
            have n80 := (HB8.out.cell (p := ⟨w.heap.size, 0, none⟩) hWl).trans a0
            have n81 := (HB8.out.cell (p := ⟨w.heap.size, 1, none⟩) hWl).trans a1
            have n82 := (HB8.out.cell (p := ⟨w.heap.size, 2, none⟩) hWl).trans a2
            have n83 := (HB8.out.cell (p := ⟨w.heap.size, 3, none⟩) hWl).trans a3
            have m80 := (HB8.out.cell (p := ⟨w.heap.size + 1, 0, none⟩) hWm).trans b0
            have m81 := (HB8.out.cell (p := ⟨w.heap.size + 1, 1, none⟩) hWm).trans b1
            have m82 := (HB8.out.cell (p := ⟨w.heap.size + 1, 2, none⟩) hWm).trans b2
            have m83 := (HB8.out.cell (p := ⟨w.heap.size + 1, 3, none⟩) hWm).trans b3
            clear hown8 hgrow8))
        | ((
            (with_reducible show (if _ = true then Oper.wp Try.prog _ _ (((W.alloc (.cells #[.int .i64 k, .int .i64 o, .int .i64 s, .int .i64 t] 40)).alloc (.cells #[] 40)).alloc (.cells #[.int .i64 0, .int .i64 0, .int .i64 0, .slice none 0 0] 26)).drew _ _ else _))
            refine step_lay0 (by rfl) _ _ (by rfl) W.heap.size (.slice (some ⟨W.heap.size + 1, 0, none⟩) 0 0) (by rfl) (void3b W 40 4 (.cells #[.int .i64 k, .int .i64 o, .int .i64 s, .int .i64 t] 40) (.cells #[.int .i64 0, .int .i64 0, .int .i64 0, .slice none 0 0] 26)) A n cA ls (by rfl) (HRn.out.below (news3 W (.cells #[.int .i64 k, .int .i64 o, .int .i64 s, .int .i64 t] 40) (.cells #[] 40) (.cells #[.int .i64 0, .int .i64 0, .int .i64 0, .slice none 0 0] 26))) LX.out (by omega) (news3 W (.cells #[.int .i64 k, .int .i64 o, .int .i64 s, .int .i64 t] 40) (.cells #[] 40) (.cells #[.int .i64 0, .int .i64 0, .int .i64 0, .slice none 0 0] 26)).size ?_
            intro A8 c8 w8 hown8 hgrow8
            have HB8 : Hid (Below W.heap.size W w8) := (news3 W (.cells #[.int .i64 k, .int .i64 o, .int .i64 s, .int .i64 t] 40) (.cells #[] 40) (.cells #[.int .i64 0, .int .i64 0, .int .i64 0, .slice none 0 0] 26)).grown hgrow8 (news3 W (.cells #[.int .i64 k, .int .i64 o, .int .i64 s, .int .i64 t] 40) (.cells #[] 40) (.cells #[.int .i64 0, .int .i64 0, .int .i64 0, .slice none 0 0] 26)).size (fun q hk => by simp [Value.ownBlock] at hk; omega)
            have OW8 := Lib.hid hown8
            have HQ8 : Hid (QB w8 (W.heap.size) ⟨k, o, s, t⟩) := qb_grow hgrow8 (three_old W (.cells #[.int .i64 k, .int .i64 o, .int .i64 s, .int .i64 t] 40) (.cells #[] 40) (.cells #[.int .i64 0, .int .i64 0, .int .i64 0, .slice none 0 0] 26)) (by omega)
            have HZ8 : Hid (NB w8 (W.heap.size + 1 + 1) 0 0 0 (.slice none 0 0)) := nb_grow hgrow8 (void3b W 40 4 (.cells #[.int .i64 k, .int .i64 o, .int .i64 s, .int .i64 t] 40) (.cells #[.int .i64 0, .int .i64 0, .int .i64 0, .slice none 0 0] 26)) (three_new W (.cells #[.int .i64 k, .int .i64 o, .int .i64 s, .int .i64 t] 40) (.cells #[] 40) (.cells #[.int .i64 0, .int .i64 0, .int .i64 0, .slice none 0 0] 26))
            have hbw8 := (HB8.out.size)
            have n80 := (HB8.out.cell (p := ⟨w.heap.size, 0, none⟩) hWl).trans a0
            have n81 := (HB8.out.cell (p := ⟨w.heap.size, 1, none⟩) hWl).trans a1
            have n82 := (HB8.out.cell (p := ⟨w.heap.size, 2, none⟩) hWl).trans a2
            have n83 := (HB8.out.cell (p := ⟨w.heap.size, 3, none⟩) hWl).trans a3
            have m80 := (HB8.out.cell (p := ⟨w.heap.size + 1, 0, none⟩) hWm).trans b0
            have m81 := (HB8.out.cell (p := ⟨w.heap.size + 1, 1, none⟩) hWm).trans b1
            have m82 := (HB8.out.cell (p := ⟨w.heap.size + 1, 2, none⟩) hWm).trans b2
            have m83 := (HB8.out.cell (p := ⟨w.heap.size + 1, 3, none⟩) hWm).trans b3
            clear hown8 hgrow8))
        | ((
            (with_reducible show (if _ = true then Oper.wp Try.prog _ _ (((W.alloc (.cells #[.int .i64 k, .int .i64 o, .int .i64 s, .int .i64 t] 40)).alloc (.cells #[.int .i64 0, .int .i64 0, .int .i64 0, .slice none 0 0] 26)).alloc (.cells #[] 40)).drew _ _ else _))
            refine step_lay0 (by rfl) _ _ (by rfl) W.heap.size (.slice (some ⟨W.heap.size + 1 + 1, 0, none⟩) 0 0) (by rfl) (void3c W 40 4 (.cells #[.int .i64 k, .int .i64 o, .int .i64 s, .int .i64 t] 40) (.cells #[.int .i64 0, .int .i64 0, .int .i64 0, .slice none 0 0] 26)) A n cA ls (by rfl) (HRn.out.below (news3 W (.cells #[.int .i64 k, .int .i64 o, .int .i64 s, .int .i64 t] 40) (.cells #[.int .i64 0, .int .i64 0, .int .i64 0, .slice none 0 0] 26) (.cells #[] 40))) LX.out (by omega) (news3 W (.cells #[.int .i64 k, .int .i64 o, .int .i64 s, .int .i64 t] 40) (.cells #[.int .i64 0, .int .i64 0, .int .i64 0, .slice none 0 0] 26) (.cells #[] 40)).size ?_
            intro A8 c8 w8 hown8 hgrow8
            have HB8 : Hid (Below W.heap.size W w8) := (news3 W (.cells #[.int .i64 k, .int .i64 o, .int .i64 s, .int .i64 t] 40) (.cells #[.int .i64 0, .int .i64 0, .int .i64 0, .slice none 0 0] 26) (.cells #[] 40)).grown hgrow8 (news3 W (.cells #[.int .i64 k, .int .i64 o, .int .i64 s, .int .i64 t] 40) (.cells #[.int .i64 0, .int .i64 0, .int .i64 0, .slice none 0 0] 26) (.cells #[] 40)).size (fun q hk => by simp [Value.ownBlock] at hk; omega)
            have OW8 := Lib.hid hown8
            have HQ8 : Hid (QB w8 (W.heap.size) ⟨k, o, s, t⟩) := qb_grow hgrow8 (three_old W (.cells #[.int .i64 k, .int .i64 o, .int .i64 s, .int .i64 t] 40) (.cells #[.int .i64 0, .int .i64 0, .int .i64 0, .slice none 0 0] 26) (.cells #[] 40)) (by omega)
            have HZ8 : Hid (NB w8 (W.heap.size + 1) 0 0 0 (.slice none 0 0)) := nb_grow hgrow8 (void3c W 40 4 (.cells #[.int .i64 k, .int .i64 o, .int .i64 s, .int .i64 t] 40) (.cells #[.int .i64 0, .int .i64 0, .int .i64 0, .slice none 0 0] 26)) (three_mid W (.cells #[.int .i64 k, .int .i64 o, .int .i64 s, .int .i64 t] 40) (.cells #[.int .i64 0, .int .i64 0, .int .i64 0, .slice none 0 0] 26) (.cells #[] 40))
            have hbw8 := (HB8.out.size)
            have n80 := (HB8.out.cell (p := ⟨w.heap.size, 0, none⟩) hWl).trans a0
            have n81 := (HB8.out.cell (p := ⟨w.heap.size, 1, none⟩) hWl).trans a1
            have n82 := (HB8.out.cell (p := ⟨w.heap.size, 2, none⟩) hWl).trans a2
            have n83 := (HB8.out.cell (p := ⟨w.heap.size, 3, none⟩) hWl).trans a3
            have m80 := (HB8.out.cell (p := ⟨w.heap.size + 1, 0, none⟩) hWm).trans b0
            have m81 := (HB8.out.cell (p := ⟨w.heap.size + 1, 1, none⟩) hWm).trans b1
            have m82 := (HB8.out.cell (p := ⟨w.heap.size + 1, 2, none⟩) hWm).trans b2
            have m83 := (HB8.out.cell (p := ⟨w.heap.size + 1, 3, none⟩) hWm).trans b3
            clear hown8 hgrow8))
        | ((
            (with_reducible show (if _ = true then Oper.wp Try.prog _ _ (((W.alloc (.cells #[.int .i64 0, .int .i64 0, .int .i64 0, .slice none 0 0] 26)).alloc (.cells #[] 40)).alloc (.cells #[.int .i64 k, .int .i64 o, .int .i64 s, .int .i64 t] 40)).drew _ _ else _))
            refine step_lay0 (by rfl) _ _ (by rfl) W.heap.size (.slice (some ⟨W.heap.size + 1, 0, none⟩) 0 0) (by rfl) (void3b W 40 4 (.cells #[.int .i64 0, .int .i64 0, .int .i64 0, .slice none 0 0] 26) (.cells #[.int .i64 k, .int .i64 o, .int .i64 s, .int .i64 t] 40)) A n cA ls (by rfl) (HRn.out.below (news3 W (.cells #[.int .i64 0, .int .i64 0, .int .i64 0, .slice none 0 0] 26) (.cells #[] 40) (.cells #[.int .i64 k, .int .i64 o, .int .i64 s, .int .i64 t] 40))) LX.out (by omega) (news3 W (.cells #[.int .i64 0, .int .i64 0, .int .i64 0, .slice none 0 0] 26) (.cells #[] 40) (.cells #[.int .i64 k, .int .i64 o, .int .i64 s, .int .i64 t] 40)).size ?_
            intro A8 c8 w8 hown8 hgrow8
            have HB8 : Hid (Below W.heap.size W w8) := (news3 W (.cells #[.int .i64 0, .int .i64 0, .int .i64 0, .slice none 0 0] 26) (.cells #[] 40) (.cells #[.int .i64 k, .int .i64 o, .int .i64 s, .int .i64 t] 40)).grown hgrow8 (news3 W (.cells #[.int .i64 0, .int .i64 0, .int .i64 0, .slice none 0 0] 26) (.cells #[] 40) (.cells #[.int .i64 k, .int .i64 o, .int .i64 s, .int .i64 t] 40)).size (fun q hk => by simp [Value.ownBlock] at hk; omega)
            have OW8 := Lib.hid hown8
            have HQ8 : Hid (QB w8 (W.heap.size + 1 + 1) ⟨k, o, s, t⟩) := qb_grow hgrow8 (three_new W (.cells #[.int .i64 0, .int .i64 0, .int .i64 0, .slice none 0 0] 26) (.cells #[] 40) (.cells #[.int .i64 k, .int .i64 o, .int .i64 s, .int .i64 t] 40)) (by omega)
            have HZ8 : Hid (NB w8 (W.heap.size) 0 0 0 (.slice none 0 0)) := nb_grow hgrow8 (void3b W 40 4 (.cells #[.int .i64 0, .int .i64 0, .int .i64 0, .slice none 0 0] 26) (.cells #[.int .i64 k, .int .i64 o, .int .i64 s, .int .i64 t] 40)) (three_old W (.cells #[.int .i64 0, .int .i64 0, .int .i64 0, .slice none 0 0] 26) (.cells #[] 40) (.cells #[.int .i64 k, .int .i64 o, .int .i64 s, .int .i64 t] 40))
            have hbw8 := (HB8.out.size)
            have n80 := (HB8.out.cell (p := ⟨w.heap.size, 0, none⟩) hWl).trans a0
            have n81 := (HB8.out.cell (p := ⟨w.heap.size, 1, none⟩) hWl).trans a1
            have n82 := (HB8.out.cell (p := ⟨w.heap.size, 2, none⟩) hWl).trans a2
            have n83 := (HB8.out.cell (p := ⟨w.heap.size, 3, none⟩) hWl).trans a3
            have m80 := (HB8.out.cell (p := ⟨w.heap.size + 1, 0, none⟩) hWm).trans b0
            have m81 := (HB8.out.cell (p := ⟨w.heap.size + 1, 1, none⟩) hWm).trans b1
            have m82 := (HB8.out.cell (p := ⟨w.heap.size + 1, 2, none⟩) hWm).trans b2
            have m83 := (HB8.out.cell (p := ⟨w.heap.size + 1, 3, none⟩) hWm).trans b3
            clear hown8 hgrow8))
        | ((
            (with_reducible show (if _ = true then Oper.wp Try.prog _ _ (((W.alloc (.cells #[.int .i64 0, .int .i64 0, .int .i64 0, .slice none 0 0] 26)).alloc (.cells #[.int .i64 k, .int .i64 o, .int .i64 s, .int .i64 t] 40)).alloc (.cells #[] 40)).drew _ _ else _))
            refine step_lay0 (by rfl) _ _ (by rfl) W.heap.size (.slice (some ⟨W.heap.size + 1 + 1, 0, none⟩) 0 0) (by rfl) (void3c W 40 4 (.cells #[.int .i64 0, .int .i64 0, .int .i64 0, .slice none 0 0] 26) (.cells #[.int .i64 k, .int .i64 o, .int .i64 s, .int .i64 t] 40)) A n cA ls (by rfl) (HRn.out.below (news3 W (.cells #[.int .i64 0, .int .i64 0, .int .i64 0, .slice none 0 0] 26) (.cells #[.int .i64 k, .int .i64 o, .int .i64 s, .int .i64 t] 40) (.cells #[] 40))) LX.out (by omega) (news3 W (.cells #[.int .i64 0, .int .i64 0, .int .i64 0, .slice none 0 0] 26) (.cells #[.int .i64 k, .int .i64 o, .int .i64 s, .int .i64 t] 40) (.cells #[] 40)).size ?_
            intro A8 c8 w8 hown8 hgrow8
            have HB8 : Hid (Below W.heap.size W w8) := (news3 W (.cells #[.int .i64 0, .int .i64 0, .int .i64 0, .slice none 0 0] 26) (.cells #[.int .i64 k, .int .i64 o, .int .i64 s, .int .i64 t] 40) (.cells #[] 40)).grown hgrow8 (news3 W (.cells #[.int .i64 0, .int .i64 0, .int .i64 0, .slice none 0 0] 26) (.cells #[.int .i64 k, .int .i64 o, .int .i64 s, .int .i64 t] 40) (.cells #[] 40)).size (fun q hk => by simp [Value.ownBlock] at hk; omega)
            have OW8 := Lib.hid hown8
            have HQ8 : Hid (QB w8 (W.heap.size + 1) ⟨k, o, s, t⟩) := qb_grow hgrow8 (three_mid W (.cells #[.int .i64 0, .int .i64 0, .int .i64 0, .slice none 0 0] 26) (.cells #[.int .i64 k, .int .i64 o, .int .i64 s, .int .i64 t] 40) (.cells #[] 40)) (by omega)
            have HZ8 : Hid (NB w8 (W.heap.size) 0 0 0 (.slice none 0 0)) := nb_grow hgrow8 (void3c W 40 4 (.cells #[.int .i64 0, .int .i64 0, .int .i64 0, .slice none 0 0] 26) (.cells #[.int .i64 k, .int .i64 o, .int .i64 s, .int .i64 t] 40)) (three_old W (.cells #[.int .i64 0, .int .i64 0, .int .i64 0, .slice none 0 0] 26) (.cells #[.int .i64 k, .int .i64 o, .int .i64 s, .int .i64 t] 40) (.cells #[] 40))
            have hbw8 := (HB8.out.size)
            have n80 := (HB8.out.cell (p := ⟨w.heap.size, 0, none⟩) hWl).trans a0
            have n81 := (HB8.out.cell (p := ⟨w.heap.size, 1, none⟩) hWl).trans a1
            have n82 := (HB8.out.cell (p := ⟨w.heap.size, 2, none⟩) hWl).trans a2
            have n83 := (HB8.out.cell (p := ⟨w.heap.size, 3, none⟩) hWl).trans a3
            have m80 := (HB8.out.cell (p := ⟨w.heap.size + 1, 0, none⟩) hWm).trans b0
            have m81 := (HB8.out.cell (p := ⟨w.heap.size + 1, 1, none⟩) hWm).trans b1
            have m82 := (HB8.out.cell (p := ⟨w.heap.size + 1, 2, none⟩) hWm).trans b2
            have m83 := (HB8.out.cell (p := ⟨w.heap.size + 1, 3, none⟩) hWm).trans b3
            clear hown8 hgrow8))
        | ((
            (with_reducible show (if _ = true then Oper.wp Try.prog _ _ w8 _ _ else _))
            refine step_lay (by rfl) _ _ (by rfl) W.heap.size (.slice A8 n c8) n ls (by rfl) (OW8.out) (some ⟨_, 0, none⟩) 1 1 [⟨k, o, s, t⟩] rfl (rl_q (HQ8.out)) rfl (by omega) (HB8.out.size) ?_
            intro A9 c9 w9 hown9 hgrow9 hat9
            have HB9 : Hid (Below W.heap.size W w9) := (HB8.out).grown hgrow9 (HB8.out.size) (fun q hk => (OW8.out.lt q hk).1)
            have OW9 := Lib.hid hown9
            have HZ9 := Lib.hid (nb_grow hgrow9 (OW8.out) (HZ8.out))
            obtain ⟨z90, z91, z92, z93⟩ := HZ9.out.cells
            obtain ⟨f90, f91, f92, f93⟩ := HZ9.out.frozen
            have hbw9 := (HB9.out.size)
            have n90 := (HB9.out.cell (p := ⟨w.heap.size, 0, none⟩) hWl).trans a0
            have n91 := (HB9.out.cell (p := ⟨w.heap.size, 1, none⟩) hWl).trans a1
            have n92 := (HB9.out.cell (p := ⟨w.heap.size, 2, none⟩) hWl).trans a2
            have n93 := (HB9.out.cell (p := ⟨w.heap.size, 3, none⟩) hWl).trans a3
            have m90 := (HB9.out.cell (p := ⟨w.heap.size + 1, 0, none⟩) hWm).trans b0
            have m91 := (HB9.out.cell (p := ⟨w.heap.size + 1, 1, none⟩) hWm).trans b1
            have m92 := (HB9.out.cell (p := ⟨w.heap.size + 1, 2, none⟩) hWm).trans b2
            have m93 := (HB9.out.cell (p := ⟨w.heap.size + 1, 3, none⟩) hWm).trans b3
            have u0a : ¬ w.heap.size + 1 = W.heap.size := by omega
            have u0b : ¬ W.heap.size = w.heap.size + 1 := by omega
            have u1a : ¬ w.heap.size + 1 = W.heap.size + 1 := by omega
            have u1b : ¬ W.heap.size + 1 = w.heap.size + 1 := by omega
            have u2a : ¬ w.heap.size + 1 = W.heap.size + 1 + 1 := by omega
            have u2b : ¬ W.heap.size + 1 + 1 = w.heap.size + 1 := by omega
            have u3a : ¬ w.heap.size + 1 = w8.heap.size := by omega
            have u3b : ¬ w8.heap.size = w.heap.size + 1 := by omega
            have u4a : ¬ w.heap.size + 1 = w8.heap.size + 1 := by omega
            have u4b : ¬ w8.heap.size + 1 = w.heap.size + 1 := by omega
            have u5a : ¬ w.heap.size + 1 = w9.heap.size := by omega
            have u5b : ¬ w9.heap.size = w.heap.size + 1 := by omega
            have y0a : ¬ w.heap.size = W.heap.size := by omega
            have y0b : ¬ W.heap.size = w.heap.size := by omega
            have y1a : ¬ w.heap.size = W.heap.size + 1 := by omega
            have y1b : ¬ W.heap.size + 1 = w.heap.size := by omega
            have y2a : ¬ w.heap.size = W.heap.size + 1 + 1 := by omega
            have y2b : ¬ W.heap.size + 1 + 1 = w.heap.size := by omega
            have y3a : ¬ w.heap.size = w8.heap.size := by omega
            have y3b : ¬ w8.heap.size = w.heap.size := by omega
            have y4a : ¬ w.heap.size = w8.heap.size + 1 := by omega
            have y4b : ¬ w8.heap.size + 1 = w.heap.size := by omega
            have y5a : ¬ w.heap.size = w9.heap.size := by omega
            have y5b : ¬ w9.heap.size = w.heap.size := by omega
            clear hown9 hgrow9 hat9))
        | ((
            (with_reducible show (if _ = true then Oper.wp Try.prog _ _ w8 _ _ else _))
            refine step_lay (by rfl) _ _ (by rfl) W.heap.size (.slice A8 n c8) n ls (by rfl) (OW8.out) (some ⟨_, 0, none⟩) 1 1 [⟨k, o, s, t⟩] rfl (rl_q (HQ8.out)) rfl (by omega) (HB8.out.size) ?_
            intro A9 c9 w9 hown9 hgrow9 hat9
            have HB9 : Hid (Below W.heap.size W w9) := (HB8.out).grown hgrow9 (HB8.out.size) (fun q hk => (OW8.out.lt q hk).1)
            have OW9 := Lib.hid hown9
            have hbw9 := (HB9.out.size)
            have n90 := (HB9.out.cell (p := ⟨w.heap.size, 0, none⟩) hWl).trans a0
            have n91 := (HB9.out.cell (p := ⟨w.heap.size, 1, none⟩) hWl).trans a1
            have n92 := (HB9.out.cell (p := ⟨w.heap.size, 2, none⟩) hWl).trans a2
            have n93 := (HB9.out.cell (p := ⟨w.heap.size, 3, none⟩) hWl).trans a3
            have m90 := (HB9.out.cell (p := ⟨w.heap.size + 1, 0, none⟩) hWm).trans b0
            have m91 := (HB9.out.cell (p := ⟨w.heap.size + 1, 1, none⟩) hWm).trans b1
            have m92 := (HB9.out.cell (p := ⟨w.heap.size + 1, 2, none⟩) hWm).trans b2
            have m93 := (HB9.out.cell (p := ⟨w.heap.size + 1, 3, none⟩) hWm).trans b3
            have u0a : ¬ w.heap.size + 1 = W.heap.size := by omega
            have u0b : ¬ W.heap.size = w.heap.size + 1 := by omega
            have u1a : ¬ w.heap.size + 1 = W.heap.size + 1 := by omega
            have u1b : ¬ W.heap.size + 1 = w.heap.size + 1 := by omega
            have u2a : ¬ w.heap.size + 1 = W.heap.size + 1 + 1 := by omega
            have u2b : ¬ W.heap.size + 1 + 1 = w.heap.size + 1 := by omega
            have u3a : ¬ w.heap.size + 1 = w8.heap.size := by omega
            have u3b : ¬ w8.heap.size = w.heap.size + 1 := by omega
            have u4a : ¬ w.heap.size + 1 = w8.heap.size + 1 := by omega
            have u4b : ¬ w8.heap.size + 1 = w.heap.size + 1 := by omega
            have u5a : ¬ w.heap.size + 1 = w9.heap.size := by omega
            have u5b : ¬ w9.heap.size = w.heap.size + 1 := by omega
            have y0a : ¬ w.heap.size = W.heap.size := by omega
            have y0b : ¬ W.heap.size = w.heap.size := by omega
            have y1a : ¬ w.heap.size = W.heap.size + 1 := by omega
            have y1b : ¬ W.heap.size + 1 = w.heap.size := by omega
            have y2a : ¬ w.heap.size = W.heap.size + 1 + 1 := by omega
            have y2b : ¬ W.heap.size + 1 + 1 = w.heap.size := by omega
            have y3a : ¬ w.heap.size = w8.heap.size := by omega
            have y3b : ¬ w8.heap.size = w.heap.size := by omega
            have y4a : ¬ w.heap.size = w8.heap.size + 1 := by omega
            have y4b : ¬ w8.heap.size + 1 = w.heap.size := by omega
            have y5a : ¬ w.heap.size = w9.heap.size := by omega
            have y5b : ¬ w9.heap.size = w.heap.size := by omega
            clear hown9 hgrow9 hat9))
        | ((
            (with_reducible show (if _ = true then Oper.wp Try.prog _ _ (w8.alloc (.cells #[.int .i64 0, .int .i64 0, .int .i64 0, .slice none 0 0] 26)) _ _ else _))
            refine step_lay (by rfl) _ _ (by rfl) W.heap.size (.slice A8 n c8) n ls (by rfl) (OW8.out.alloc _) (some ⟨_, 0, none⟩) 1 1 [⟨k, o, s, t⟩] rfl (rl_q (HQ8.out.alloc _)) rfl (by omega) (Nat.le_trans HB8.out.size (by simp)) ?_
            intro A9 c9 w9 hown9 hgrow9 hat9
            have HB9 : Hid (Below W.heap.size W w9) := (HB8.out.alloc HB8.out.size _).grown hgrow9 (Nat.le_trans HB8.out.size (by simp)) (fun q hk => (OW8.out.lt q hk).1)
            have OW9 := Lib.hid hown9
            have HZ9 := Lib.hid (nb_grow hgrow9 (OW8.out.alloc _) (NB.new w8 0 0 0 (.slice none 0 0)))
            obtain ⟨z90, z91, z92, z93⟩ := HZ9.out.cells
            obtain ⟨f90, f91, f92, f93⟩ := HZ9.out.frozen
            have hbw9 := (HB9.out.size)
            have n90 := (HB9.out.cell (p := ⟨w.heap.size, 0, none⟩) hWl).trans a0
            have n91 := (HB9.out.cell (p := ⟨w.heap.size, 1, none⟩) hWl).trans a1
            have n92 := (HB9.out.cell (p := ⟨w.heap.size, 2, none⟩) hWl).trans a2
            have n93 := (HB9.out.cell (p := ⟨w.heap.size, 3, none⟩) hWl).trans a3
            have m90 := (HB9.out.cell (p := ⟨w.heap.size + 1, 0, none⟩) hWm).trans b0
            have m91 := (HB9.out.cell (p := ⟨w.heap.size + 1, 1, none⟩) hWm).trans b1
            have m92 := (HB9.out.cell (p := ⟨w.heap.size + 1, 2, none⟩) hWm).trans b2
            have m93 := (HB9.out.cell (p := ⟨w.heap.size + 1, 3, none⟩) hWm).trans b3
            have u0a : ¬ w.heap.size + 1 = W.heap.size := by omega
            have u0b : ¬ W.heap.size = w.heap.size + 1 := by omega
            have u1a : ¬ w.heap.size + 1 = W.heap.size + 1 := by omega
            have u1b : ¬ W.heap.size + 1 = w.heap.size + 1 := by omega
            have u2a : ¬ w.heap.size + 1 = W.heap.size + 1 + 1 := by omega
            have u2b : ¬ W.heap.size + 1 + 1 = w.heap.size + 1 := by omega
            have u3a : ¬ w.heap.size + 1 = w8.heap.size := by omega
            have u3b : ¬ w8.heap.size = w.heap.size + 1 := by omega
            have u4a : ¬ w.heap.size + 1 = w8.heap.size + 1 := by omega
            have u4b : ¬ w8.heap.size + 1 = w.heap.size + 1 := by omega
            have u5a : ¬ w.heap.size + 1 = w9.heap.size := by omega
            have u5b : ¬ w9.heap.size = w.heap.size + 1 := by omega
            have y0a : ¬ w.heap.size = W.heap.size := by omega
            have y0b : ¬ W.heap.size = w.heap.size := by omega
            have y1a : ¬ w.heap.size = W.heap.size + 1 := by omega
            have y1b : ¬ W.heap.size + 1 = w.heap.size := by omega
            have y2a : ¬ w.heap.size = W.heap.size + 1 + 1 := by omega
            have y2b : ¬ W.heap.size + 1 + 1 = w.heap.size := by omega
            have y3a : ¬ w.heap.size = w8.heap.size := by omega
            have y3b : ¬ w8.heap.size = w.heap.size := by omega
            have y4a : ¬ w.heap.size = w8.heap.size + 1 := by omega
            have y4b : ¬ w8.heap.size + 1 = w.heap.size := by omega
            have y5a : ¬ w.heap.size = w9.heap.size := by omega
            have y5b : ¬ w9.heap.size = w.heap.size := by omega
            clear hown9 hgrow9 hat9))
        | ((
            (with_reducible show (if _ = true then Oper.wp Try.prog _ _ (w8.alloc (.cells #[.int .i64 k, .int .i64 o, .int .i64 s, .int .i64 t] 40)) _ _ else _))
            refine step_lay (by rfl) _ _ (by rfl) W.heap.size (.slice A8 n c8) n ls (by rfl) (OW8.out.alloc _) (some ⟨_, 0, none⟩) 1 1 [⟨k, o, s, t⟩] rfl (rl_q (qb_new w8 k o s t)) rfl (by omega) (Nat.le_trans HB8.out.size (by simp)) ?_
            intro A9 c9 w9 hown9 hgrow9 hat9
            have HB9 : Hid (Below W.heap.size W w9) := (HB8.out.alloc HB8.out.size _).grown hgrow9 (Nat.le_trans HB8.out.size (by simp)) (fun q hk => (OW8.out.lt q hk).1)
            have OW9 := Lib.hid hown9
            have HZ9 := Lib.hid (nb_grow hgrow9 (OW8.out.alloc _) (HZ8.out.alloc _))
            obtain ⟨z90, z91, z92, z93⟩ := HZ9.out.cells
            obtain ⟨f90, f91, f92, f93⟩ := HZ9.out.frozen
            have hbw9 := (HB9.out.size)
            have n90 := (HB9.out.cell (p := ⟨w.heap.size, 0, none⟩) hWl).trans a0
            have n91 := (HB9.out.cell (p := ⟨w.heap.size, 1, none⟩) hWl).trans a1
            have n92 := (HB9.out.cell (p := ⟨w.heap.size, 2, none⟩) hWl).trans a2
            have n93 := (HB9.out.cell (p := ⟨w.heap.size, 3, none⟩) hWl).trans a3
            have m90 := (HB9.out.cell (p := ⟨w.heap.size + 1, 0, none⟩) hWm).trans b0
            have m91 := (HB9.out.cell (p := ⟨w.heap.size + 1, 1, none⟩) hWm).trans b1
            have m92 := (HB9.out.cell (p := ⟨w.heap.size + 1, 2, none⟩) hWm).trans b2
            have m93 := (HB9.out.cell (p := ⟨w.heap.size + 1, 3, none⟩) hWm).trans b3
            have u0a : ¬ w.heap.size + 1 = W.heap.size := by omega
            have u0b : ¬ W.heap.size = w.heap.size + 1 := by omega
            have u1a : ¬ w.heap.size + 1 = W.heap.size + 1 := by omega
            have u1b : ¬ W.heap.size + 1 = w.heap.size + 1 := by omega
            have u2a : ¬ w.heap.size + 1 = W.heap.size + 1 + 1 := by omega
            have u2b : ¬ W.heap.size + 1 + 1 = w.heap.size + 1 := by omega
            have u3a : ¬ w.heap.size + 1 = w8.heap.size := by omega
            have u3b : ¬ w8.heap.size = w.heap.size + 1 := by omega
            have u4a : ¬ w.heap.size + 1 = w8.heap.size + 1 := by omega
            have u4b : ¬ w8.heap.size + 1 = w.heap.size + 1 := by omega
            have u5a : ¬ w.heap.size + 1 = w9.heap.size := by omega
            have u5b : ¬ w9.heap.size = w.heap.size + 1 := by omega
            have y0a : ¬ w.heap.size = W.heap.size := by omega
            have y0b : ¬ W.heap.size = w.heap.size := by omega
            have y1a : ¬ w.heap.size = W.heap.size + 1 := by omega
            have y1b : ¬ W.heap.size + 1 = w.heap.size := by omega
            have y2a : ¬ w.heap.size = W.heap.size + 1 + 1 := by omega
            have y2b : ¬ W.heap.size + 1 + 1 = w.heap.size := by omega
            have y3a : ¬ w.heap.size = w8.heap.size := by omega
            have y3b : ¬ w8.heap.size = w.heap.size := by omega
            have y4a : ¬ w.heap.size = w8.heap.size + 1 := by omega
            have y4b : ¬ w8.heap.size + 1 = w.heap.size := by omega
            have y5a : ¬ w.heap.size = w9.heap.size := by omega
            have y5b : ¬ w9.heap.size = w.heap.size := by omega
            clear hown9 hgrow9 hat9))
        | ((
            (with_reducible show (if _ = true then Oper.wp Try.prog _ _ (w8.alloc (.cells #[.int .i64 k, .int .i64 o, .int .i64 s, .int .i64 t] 40)) _ _ else _))
            refine step_lay (by rfl) _ _ (by rfl) W.heap.size (.slice A8 n c8) n ls (by rfl) (OW8.out.alloc _) (some ⟨_, 0, none⟩) 1 1 [⟨k, o, s, t⟩] rfl (rl_q (qb_new w8 k o s t)) rfl (by omega) (Nat.le_trans HB8.out.size (by simp)) ?_
            intro A9 c9 w9 hown9 hgrow9 hat9
            have HB9 : Hid (Below W.heap.size W w9) := (HB8.out.alloc HB8.out.size _).grown hgrow9 (Nat.le_trans HB8.out.size (by simp)) (fun q hk => (OW8.out.lt q hk).1)
            have OW9 := Lib.hid hown9
            have hbw9 := (HB9.out.size)
            have n90 := (HB9.out.cell (p := ⟨w.heap.size, 0, none⟩) hWl).trans a0
            have n91 := (HB9.out.cell (p := ⟨w.heap.size, 1, none⟩) hWl).trans a1
            have n92 := (HB9.out.cell (p := ⟨w.heap.size, 2, none⟩) hWl).trans a2
            have n93 := (HB9.out.cell (p := ⟨w.heap.size, 3, none⟩) hWl).trans a3
            have m90 := (HB9.out.cell (p := ⟨w.heap.size + 1, 0, none⟩) hWm).trans b0
            have m91 := (HB9.out.cell (p := ⟨w.heap.size + 1, 1, none⟩) hWm).trans b1
            have m92 := (HB9.out.cell (p := ⟨w.heap.size + 1, 2, none⟩) hWm).trans b2
            have m93 := (HB9.out.cell (p := ⟨w.heap.size + 1, 3, none⟩) hWm).trans b3
            have u0a : ¬ w.heap.size + 1 = W.heap.size := by omega
            have u0b : ¬ W.heap.size = w.heap.size + 1 := by omega
            have u1a : ¬ w.heap.size + 1 = W.heap.size + 1 := by omega
            have u1b : ¬ W.heap.size + 1 = w.heap.size + 1 := by omega
            have u2a : ¬ w.heap.size + 1 = W.heap.size + 1 + 1 := by omega
            have u2b : ¬ W.heap.size + 1 + 1 = w.heap.size + 1 := by omega
            have u3a : ¬ w.heap.size + 1 = w8.heap.size := by omega
            have u3b : ¬ w8.heap.size = w.heap.size + 1 := by omega
            have u4a : ¬ w.heap.size + 1 = w8.heap.size + 1 := by omega
            have u4b : ¬ w8.heap.size + 1 = w.heap.size + 1 := by omega
            have u5a : ¬ w.heap.size + 1 = w9.heap.size := by omega
            have u5b : ¬ w9.heap.size = w.heap.size + 1 := by omega
            have y0a : ¬ w.heap.size = W.heap.size := by omega
            have y0b : ¬ W.heap.size = w.heap.size := by omega
            have y1a : ¬ w.heap.size = W.heap.size + 1 := by omega
            have y1b : ¬ W.heap.size + 1 = w.heap.size := by omega
            have y2a : ¬ w.heap.size = W.heap.size + 1 + 1 := by omega
            have y2b : ¬ W.heap.size + 1 + 1 = w.heap.size := by omega
            have y3a : ¬ w.heap.size = w8.heap.size := by omega
            have y3b : ¬ w8.heap.size = w.heap.size := by omega
            have y4a : ¬ w.heap.size = w8.heap.size + 1 := by omega
            have y4b : ¬ w8.heap.size + 1 = w.heap.size := by omega
            have y5a : ¬ w.heap.size = w9.heap.size := by omega
            have y5b : ¬ w9.heap.size = w.heap.size := by omega
            clear hown9 hgrow9 hat9))
        | ((
            (with_reducible show (if _ = true then Oper.wp Try.prog _ _ ((w8.alloc (.cells #[.int .i64 k, .int .i64 o, .int .i64 s, .int .i64 t] 40)).alloc (.cells #[.int .i64 0, .int .i64 0, .int .i64 0, .slice none 0 0] 26)) _ _ else _))
            refine step_lay (by rfl) _ _ (by rfl) W.heap.size (.slice A8 n c8) n ls (by rfl) ((OW8.out.alloc _).alloc _) (some ⟨_, 0, none⟩) 1 1 [⟨k, o, s, t⟩] rfl (rl_q ((qb_new w8 k o s t).alloc _)) rfl (by omega) (Nat.le_trans HB8.out.size (by simp <;> omega)) ?_
            intro A9 c9 w9 hown9 hgrow9 hat9
            have HB9 : Hid (Below W.heap.size W w9) := ((HB8.out.alloc HB8.out.size _).alloc (Nat.le_trans HB8.out.size (by simp)) _).grown hgrow9 (Nat.le_trans HB8.out.size (by simp <;> omega)) (fun q hk => (OW8.out.lt q hk).1)
            have OW9 := Lib.hid hown9
            have HZ9 := Lib.hid (nb_grow hgrow9 ((OW8.out.alloc _).alloc _) (two_new w8 (.cells #[.int .i64 k, .int .i64 o, .int .i64 s, .int .i64 t] 40) (.cells #[.int .i64 0, .int .i64 0, .int .i64 0, .slice none 0 0] 26)))
            obtain ⟨z90, z91, z92, z93⟩ := HZ9.out.cells
            obtain ⟨f90, f91, f92, f93⟩ := HZ9.out.frozen
            have hbw9 := (HB9.out.size)
            have n90 := (HB9.out.cell (p := ⟨w.heap.size, 0, none⟩) hWl).trans a0
            have n91 := (HB9.out.cell (p := ⟨w.heap.size, 1, none⟩) hWl).trans a1
            have n92 := (HB9.out.cell (p := ⟨w.heap.size, 2, none⟩) hWl).trans a2
            have n93 := (HB9.out.cell (p := ⟨w.heap.size, 3, none⟩) hWl).trans a3
            have m90 := (HB9.out.cell (p := ⟨w.heap.size + 1, 0, none⟩) hWm).trans b0
            have m91 := (HB9.out.cell (p := ⟨w.heap.size + 1, 1, none⟩) hWm).trans b1
            have m92 := (HB9.out.cell (p := ⟨w.heap.size + 1, 2, none⟩) hWm).trans b2
            have m93 := (HB9.out.cell (p := ⟨w.heap.size + 1, 3, none⟩) hWm).trans b3
            have u0a : ¬ w.heap.size + 1 = W.heap.size := by omega
            have u0b : ¬ W.heap.size = w.heap.size + 1 := by omega
            have u1a : ¬ w.heap.size + 1 = W.heap.size + 1 := by omega
            have u1b : ¬ W.heap.size + 1 = w.heap.size + 1 := by omega
            have u2a : ¬ w.heap.size + 1 = W.heap.size + 1 + 1 := by omega
            have u2b : ¬ W.heap.size + 1 + 1 = w.heap.size + 1 := by omega
            have u3a : ¬ w.heap.size + 1 = w8.heap.size := by omega
            have u3b : ¬ w8.heap.size = w.heap.size + 1 := by omega
            have u4a : ¬ w.heap.size + 1 = w8.heap.size + 1 := by omega
            have u4b : ¬ w8.heap.size + 1 = w.heap.size + 1 := by omega
            have u5a : ¬ w.heap.size + 1 = w9.heap.size := by omega
            have u5b : ¬ w9.heap.size = w.heap.size + 1 := by omega
            have y0a : ¬ w.heap.size = W.heap.size := by omega
            have y0b : ¬ W.heap.size = w.heap.size := by omega
            have y1a : ¬ w.heap.size = W.heap.size + 1 := by omega
            have y1b : ¬ W.heap.size + 1 = w.heap.size := by omega
            have y2a : ¬ w.heap.size = W.heap.size + 1 + 1 := by omega
            have y2b : ¬ W.heap.size + 1 + 1 = w.heap.size := by omega
            have y3a : ¬ w.heap.size = w8.heap.size := by omega
            have y3b : ¬ w8.heap.size = w.heap.size := by omega
            have y4a : ¬ w.heap.size = w8.heap.size + 1 := by omega
            have y4b : ¬ w8.heap.size + 1 = w.heap.size := by omega
            have y5a : ¬ w.heap.size = w9.heap.size := by omega
            have y5b : ¬ w9.heap.size = w.heap.size := by omega
            clear hown9 hgrow9 hat9))
        | ((
            (with_reducible show (if _ = true then Oper.wp Try.prog _ _ ((w8.alloc (.cells #[.int .i64 0, .int .i64 0, .int .i64 0, .slice none 0 0] 26)).alloc (.cells #[.int .i64 k, .int .i64 o, .int .i64 s, .int .i64 t] 40)) _ _ else _))
            refine step_lay (by rfl) _ _ (by rfl) W.heap.size (.slice A8 n c8) n ls (by rfl) ((OW8.out.alloc _).alloc _) (some ⟨_, 0, none⟩) 1 1 [⟨k, o, s, t⟩] rfl (rl_q (qb_new2 w8 (.cells #[.int .i64 0, .int .i64 0, .int .i64 0, .slice none 0 0] 26) k o s t)) rfl (by omega) (Nat.le_trans HB8.out.size (by simp <;> omega)) ?_
            intro A9 c9 w9 hown9 hgrow9 hat9
            have HB9 : Hid (Below W.heap.size W w9) := ((HB8.out.alloc HB8.out.size _).alloc (Nat.le_trans HB8.out.size (by simp)) _).grown hgrow9 (Nat.le_trans HB8.out.size (by simp <;> omega)) (fun q hk => (OW8.out.lt q hk).1)
            have OW9 := Lib.hid hown9
            have HZ9 := Lib.hid (nb_grow hgrow9 ((OW8.out.alloc _).alloc _) ((NB.new w8 0 0 0 (.slice none 0 0)).alloc _))
            obtain ⟨z90, z91, z92, z93⟩ := HZ9.out.cells
            obtain ⟨f90, f91, f92, f93⟩ := HZ9.out.frozen
            have hbw9 := (HB9.out.size)
            have n90 := (HB9.out.cell (p := ⟨w.heap.size, 0, none⟩) hWl).trans a0
            have n91 := (HB9.out.cell (p := ⟨w.heap.size, 1, none⟩) hWl).trans a1
            have n92 := (HB9.out.cell (p := ⟨w.heap.size, 2, none⟩) hWl).trans a2
            have n93 := (HB9.out.cell (p := ⟨w.heap.size, 3, none⟩) hWl).trans a3
            have m90 := (HB9.out.cell (p := ⟨w.heap.size + 1, 0, none⟩) hWm).trans b0
            have m91 := (HB9.out.cell (p := ⟨w.heap.size + 1, 1, none⟩) hWm).trans b1
            have m92 := (HB9.out.cell (p := ⟨w.heap.size + 1, 2, none⟩) hWm).trans b2
            have m93 := (HB9.out.cell (p := ⟨w.heap.size + 1, 3, none⟩) hWm).trans b3
            have u0a : ¬ w.heap.size + 1 = W.heap.size := by omega
            have u0b : ¬ W.heap.size = w.heap.size + 1 := by omega
            have u1a : ¬ w.heap.size + 1 = W.heap.size + 1 := by omega
            have u1b : ¬ W.heap.size + 1 = w.heap.size + 1 := by omega
            have u2a : ¬ w.heap.size + 1 = W.heap.size + 1 + 1 := by omega
            have u2b : ¬ W.heap.size + 1 + 1 = w.heap.size + 1 := by omega
            have u3a : ¬ w.heap.size + 1 = w8.heap.size := by omega
            have u3b : ¬ w8.heap.size = w.heap.size + 1 := by omega
            have u4a : ¬ w.heap.size + 1 = w8.heap.size + 1 := by omega
            have u4b : ¬ w8.heap.size + 1 = w.heap.size + 1 := by omega
            have u5a : ¬ w.heap.size + 1 = w9.heap.size := by omega
            have u5b : ¬ w9.heap.size = w.heap.size + 1 := by omega
            have y0a : ¬ w.heap.size = W.heap.size := by omega
            have y0b : ¬ W.heap.size = w.heap.size := by omega
            have y1a : ¬ w.heap.size = W.heap.size + 1 := by omega
            have y1b : ¬ W.heap.size + 1 = w.heap.size := by omega
            have y2a : ¬ w.heap.size = W.heap.size + 1 + 1 := by omega
            have y2b : ¬ W.heap.size + 1 + 1 = w.heap.size := by omega
            have y3a : ¬ w.heap.size = w8.heap.size := by omega
            have y3b : ¬ w8.heap.size = w.heap.size := by omega
            have y4a : ¬ w.heap.size = w8.heap.size + 1 := by omega
            have y4b : ¬ w8.heap.size + 1 = w.heap.size := by omega
            have y5a : ¬ w.heap.size = w9.heap.size := by omega
            have y5b : ¬ w9.heap.size = w.heap.size := by omega
            clear hown9 hgrow9 hat9))
        | fail)
    all_goals
      go_wp2_with fail
      go_meet
      first
        | exact ⟨_, _, _, rfl, (made_new (c := c) (h := h) (x := x) HB9.out OW9.out HLEN.out)⟩
        | exact ⟨_, _, _, rfl, (made_set (c := c) (h := h) (x := x) HB9.out (by omega) OW9.out HLEN.out HZ9.out)⟩
  case rest =>
    obtain ⟨z, A9, c9, rfl, MD⟩ := hcut
    obtain ⟨hb, hM, hR⟩ := MD
    obtain ⟨er, her⟩ : ∃ er, errN ⟨c, h, x, ls ++ [⟨k, o, s, t⟩]⟩ = er := ⟨_, rfl⟩
    obtain ⟨ew, hew⟩ : ∃ ew, errN ⟨c, h, x, ls⟩ = ew := ⟨_, rfl⟩
    have ER := Lib.hid her
    have EW := Lib.hid hew
    have S9 := Lib.hid (chain B2.out hb)
    have N9 := Lib.hid (N2.out.below hb)
    have Q9 := Lib.hid (Q2.out.below hb)
    have M9 := Lib.hid hM
    have R9 := Lib.hid hR
    clear her hew hb hM hR a0 a1 a2 a3 b0 b1 b2 b3 v0a v0b v1a v1b v2a v2b v9a v9b p0a p0b p1a p1b p2a p2b p9a p9b
    obtain ⟨c0, c1, c2, c3⟩ := M9.out.cells
    go_wp2_with fail
    refine (shapes_is c h x A9 c9 (n + 1) (ls ++ [⟨k, o, s, t⟩]) er _ ER.out rfl _ R9.out HLEN.out (by omega)).mono ?_
    rintro e w10 ⟨A10, k10, n10, rfl, hn10, _, hb, _, _⟩
    have HN10 := Lib.hid hn10
    have S10 := Lib.hid (chain S9.out hb)
    have N10 := Lib.hid (N9.out.below hb)
    have Q10 := Lib.hid (Q9.out.below hb)
    have M10 := Lib.hid (M9.out.below hb)
    have R10 := Lib.hid (R9.out.below hb)
    clear hb hn10 S9 N9 Q9 M9 R9 c0 c1 c2 c3
    obtain ⟨c0, c1, c2, c3⟩ := N10.out.cells
    go_wp2_with fail
    refine (shapes_is c h x A cA n ls ew _ EW.out rfl _ (HX.out.below S10.out) LX.out hn1).mono ?_
    rintro e w11 ⟨A11, k11, n11, rfl, _, _, hb, _, _⟩
    have S11 := Lib.hid (chain S10.out hb)
    have Q11 := Lib.hid (Q10.out.below hb)
    have M11 := Lib.hid (M10.out.below hb)
    have R11 := Lib.hid (R10.out.below hb)
    clear hb S10 Q10 M10 R10 N10 c0 c1 c2 c3
    obtain ⟨d0, d1, d2, d3⟩ := M11.out.cells
    go_wp2_with fail
    cases hf : formB ⟨c, h, x, ls ++ [⟨k, o, s, t⟩]⟩
    · refine (rform_is c h x A9 c9 (n + 1) (ls ++ [⟨k, o, s, t⟩]) false hf _ R11.out HLEN.out (by omega)).mono ?_
      rintro e w12 ⟨rfl, hb⟩
      have S12 := Lib.hid (chain S11.out hb)
      obtain rfl : er = 12 := by rw [← ER.out]; exact wr_form hf
      obtain rfl : n10 = 0 := by rw [HN10.out, shN_no (by rw [ER.out]; decide)]; rfl
      clear hb hf d0 d1 d2 d3
      go_wp2_with fail
      go_ret
      exact ⟨rfl, S12.out⟩
    refine (rform_is c h x A9 c9 (n + 1) (ls ++ [⟨k, o, s, t⟩]) true hf _ R11.out HLEN.out (by omega)).mono ?_
    rintro e w12 ⟨rfl, hb⟩
    have FF := Lib.hid hf
    have S12 := Lib.hid (chain S11.out hb)
    have Q12 := Lib.hid (Q11.out.below hb)
    have M12 := Lib.hid (M11.out.below hb)
    clear hb hf S11 Q11 M11 R11 d0 d1 d2 d3
    obtain ⟨d0, d1, d2, d3⟩ := M12.out.cells
    go_wp2_with fail
    cases hr : rightB c h x
    · refine (rright_no c h x _ hr).mono ?_
      rintro e w13 ⟨rfl, hb⟩
      have S13 := Lib.hid (chain S12.out hb)
      obtain rfl : er = 1 := by rw [← ER.out]; exact wr_arg FF.out hr
      obtain rfl : n10 = 0 := by rw [HN10.out, shN_no (by rw [ER.out]; decide)]; rfl
      clear hb hr d0 d1 d2 d3
      go_wp2_with fail
      go_ret
      exact ⟨rfl, S13.out⟩
    refine (rright_yes c h x _ hr).mono ?_
    rintro e w13 ⟨rfl, hb⟩
    have S13 := Lib.hid (chain S12.out hb)
    have Q13 := Lib.hid (Q12.out.below hb)
    have MW := more_wrong ⟨k, o, s, t⟩ FF.out hr
    rw [ER.out, EW.out] at MW
    obtain ⟨m1, m2, m3, m4⟩ := MW
    clear hb hr S12 Q12 M12 d0 d1 d2 d3 FF HN10
    obtain ⟨q0, q1, q2, q3⟩ := Q13.out.cells
    simp only at q0 q1 q2 q3
    rcases m3 with rfl | rfl | rfl
    · obtain rfl := m1 rfl
      clear m1 m2 m4
      go_wp2_with fail
      go_ret
      exact ⟨rfl, S13.out⟩
    · rcases m2 rfl with rfl | rfl
      all_goals
        clear m1 m2 m4
        go_wp2_with fail
        go_ret
        exact ⟨rfl, S13.out⟩
    · rcases m4 rfl with rfl | rfl | ⟨rfl, m5⟩
      · clear m1 m2 m4
        go_wp2_with fail
        go_ret
        exact ⟨rfl, S13.out⟩
      · clear m1 m2 m4
        go_wp2_with fail
        go_ret
        exact ⟨rfl, S13.out⟩
      · clear m1 m2 m4
        simp only at m5
        rcases m5 with rfl | rfl | rfl
        all_goals
          go_wp2_with fail
          go_ret
          exact ⟨rfl, S13.out⟩

end Go.Proofs.Ytbcmhoomdackkaa
