/-
  What the document's own products of a layer answers.
-/
import Derived.Test.YtnfmpladdfgadaaRefN
namespace Go.Proofs.Ytnfmpladdfgadaa
open Go.RowKit

set_option maxHeartbeats 2000000 in
theorem rproducts_conv (o s t c h x a b d u : Int) (n : Int) (w : World) (hn : wI ⟨c, h, x⟩ ⟨1, o, s, t⟩ = n) (ok : KnOk ⟨⟨1, o, s, t⟩, ⟨c, h, x⟩, ⟨a, b, d⟩, u⟩) :
    Calls Try.prog 59 #[.agg #[.int .i64 c, .int .i64 h, .int .i64 x], .agg #[.int .i64 a, .int .i64 b, .int .i64 d], .agg #[.int .i64 1, .int .i64 o, .int .i64 s, .int .i64 t]] w fun e w' => e = .returned (.int .i64 (n * b * d)) ∧ Below w.heap.size w w' := by
  have hw := ok.w
  unfold Kn.w at hw
  rw [show wI (Kn.i _) (Kn.l _) = wI ⟨c, h, x⟩ ⟨1, o, s, t⟩ from rfl, hn] at hw
  obtain ⟨n0, n1⟩ := hw
  obtain ⟨_, _, _, _, _, _, z1, z2, z3, z4⟩ := ok.1 rfl
  have z1 : 0 ≤ b := z1
  have z2 : b ≤ 12 := z2
  have z3 : 0 ≤ d := z3
  have z4 : d ≤ 12 := z4
  obtain ⟨b1, b2⟩ := mul_bd n0 n1 z1 z2
  obtain ⟨b3, b4⟩ := mul_bd b1 b2 z3 z4
  have b2 : n * b ≤ 110592 := by omega
  have b4 : n * b * d ≤ 1327104 := by omega
  have V : Hid (IntKind.i64.wrap (IntKind.i64.wrap (n * b) * d) = n * b * d) := by
    show _ = _
    rw [IntWalk.i64_in (n * b) (by omega), IntWalk.i64_in _ (by omega)]
  have HCall : Hid (∀ w, Calls Try.prog 58 #[.agg #[.int .i64 c, .int .i64 h, .int .i64 x], .agg #[.int .i64 1, .int .i64 o, .int .i64 s, .int .i64 t]] w fun e w' => e = .returned (.int .i64 n) ∧ Below w.heap.size w w') := fun w => rweights_any ⟨c, h, x⟩ ⟨1, o, s, t⟩ _ _ n ok hn w
  clear hn ok
  obtain ⟨W, hW⟩ : ∃ W, W = ((w.alloc (.cells #[.int .i64 c, .int .i64 h, .int .i64 x] 23)).alloc (.cells #[.int .i64 a, .int .i64 b, .int .i64 d] 23)).alloc (.cells #[.int .i64 1, .int .i64 o, .int .i64 s, .int .i64 t] 71) := ⟨_, rfl⟩
  have HBW : Hid (Below w.heap.size w W) := by rw [hW]; exact (by repeat first | exact Below.refl _ _ | refine chain_alloc ?_ _)
  have a0 : W.cell? ⟨w.heap.size, 0, none⟩ = some (.int .i64 c) := by rw [hW]; go_simp
  have a1 : W.cell? ⟨w.heap.size, 1, none⟩ = some (.int .i64 h) := by rw [hW]; go_simp
  have a2 : W.cell? ⟨w.heap.size, 2, none⟩ = some (.int .i64 x) := by rw [hW]; go_simp
  have a3 : W.cell? ⟨w.heap.size + 1, 1, none⟩ = some (.int .i64 b) := by rw [hW]; go_simp
  have a4 : W.cell? ⟨w.heap.size + 1, 2, none⟩ = some (.int .i64 d) := by rw [hW]; go_simp
  have a5 : W.cell? ⟨w.heap.size + 1 + 1, 0, none⟩ = some (.int .i64 1) := by rw [hW]; go_simp
  have a6 : W.cell? ⟨w.heap.size + 1 + 1, 1, none⟩ = some (.int .i64 o) := by rw [hW]; go_simp
  have a7 : W.cell? ⟨w.heap.size + 1 + 1, 2, none⟩ = some (.int .i64 s) := by rw [hW]; go_simp
  have a8 : W.cell? ⟨w.heap.size + 1 + 1, 3, none⟩ = some (.int .i64 t) := by rw [hW]; go_simp
  have hWl : w.heap.size < W.heap.size := by rw [hW]; simp <;> omega
  have hWm : w.heap.size + 1 < W.heap.size := by rw [hW]; simp <;> omega
  have hWn : w.heap.size + 1 + 1 < W.heap.size := by rw [hW]; simp
  go_enter Try.func59, Try.ntmps59
  go_wp2_with fail
  rw [← hW]
  clear hW
  have HC0 : Hid (Below W.heap.size W W.drew) := below_drew W
  have tok1 : True := trivial
  go_region_held3 (fun w' => w'.cell? ⟨w.heap.size, 0, none⟩ = some (.int .i64 c) ∧ w'.cell? ⟨w.heap.size, 1, none⟩ = some (.int .i64 h) ∧ w'.cell? ⟨w.heap.size, 2, none⟩ = some (.int .i64 x) ∧ w'.cell? ⟨w.heap.size + 1, 1, none⟩ = some (.int .i64 b) ∧ w'.cell? ⟨w.heap.size + 1, 2, none⟩ = some (.int .i64 d) ∧ w'.cell? ⟨w.heap.size + 1 + 1, 0, none⟩ = some (.int .i64 1) ∧ w'.cell? ⟨w.heap.size + 1 + 1, 1, none⟩ = some (.int .i64 o) ∧ w'.cell? ⟨w.heap.size + 1 + 1, 2, none⟩ = some (.int .i64 s) ∧ w'.cell? ⟨w.heap.size + 1 + 1, 3, none⟩ = some (.int .i64 t))
    (first | exact ⟨q0, q1, q2, q3, q4, q5, q6, q7, q8⟩ | go_keep)
    (first
      | ((have _t := tok1; clear tok1; go_at_call 58; (with_reducible refine (HCall.out _).mono ?_); rintro e w1 ⟨rfl, hb1⟩
          have HC1 := Lib.hid (HC0.out.trans (hb1.mono HC0.out.size))
          have q0 := (HC1.out.cell (p := ⟨w.heap.size, 0, none⟩) hWl).trans a0
          have q1 := (HC1.out.cell (p := ⟨w.heap.size, 1, none⟩) hWl).trans a1
          have q2 := (HC1.out.cell (p := ⟨w.heap.size, 2, none⟩) hWl).trans a2
          have q3 := (HC1.out.cell (p := ⟨w.heap.size + 1, 1, none⟩) hWm).trans a3
          have q4 := (HC1.out.cell (p := ⟨w.heap.size + 1, 2, none⟩) hWm).trans a4
          have q5 := (HC1.out.cell (p := ⟨w.heap.size + 1 + 1, 0, none⟩) hWn).trans a5
          have q6 := (HC1.out.cell (p := ⟨w.heap.size + 1 + 1, 1, none⟩) hWn).trans a6
          have q7 := (HC1.out.cell (p := ⟨w.heap.size + 1 + 1, 2, none⟩) hWn).trans a7
          have q8 := (HC1.out.cell (p := ⟨w.heap.size + 1 + 1, 3, none⟩) hWn).trans a8
          clear hb1))
      | fail)
  go_wp2_with fail
  go_ret
  exact ⟨ret_int V.out, HBW.out.trans (HC1.out.mono HBW.out.size)⟩
set_option maxHeartbeats 1000000 in
theorem rproducts_dense (o s t c h x a b d u : Int) (n : Int) (w : World) (hn : wI ⟨c, h, x⟩ ⟨4, o, s, t⟩ = n) (ok : KnOk ⟨⟨4, o, s, t⟩, ⟨c, h, x⟩, ⟨a, b, d⟩, u⟩) :
    Calls Try.prog 59 #[.agg #[.int .i64 c, .int .i64 h, .int .i64 x], .agg #[.int .i64 a, .int .i64 b, .int .i64 d], .agg #[.int .i64 4, .int .i64 o, .int .i64 s, .int .i64 t]] w fun e w' => e = .returned (.int .i64 n) ∧ Below w.heap.size w w' := by
  have HCall : Hid (∀ w, Calls Try.prog 58 #[.agg #[.int .i64 c, .int .i64 h, .int .i64 x], .agg #[.int .i64 4, .int .i64 o, .int .i64 s, .int .i64 t]] w fun e w' => e = .returned (.int .i64 n) ∧ Below w.heap.size w w') := fun w => rweights_any ⟨c, h, x⟩ ⟨4, o, s, t⟩ _ _ n ok hn w
  clear hn ok
  go_enter Try.func59, Try.ntmps59
  go_wp2_with fail
  refine (HCall.out _).mono ?_
  rintro e w1 ⟨rfl, hb⟩
  have HB := Lib.hid (chain (below_threeB w _ _ _) hb)
  clear hb
  go_wp2_with fail
  go_ret
  exact ⟨rfl, HB.out⟩
set_option maxHeartbeats 1000000 in
theorem rproducts_square (o s t c h x a b d : Int) (w : World) :
    Calls Try.prog 59 #[.agg #[.int .i64 c, .int .i64 h, .int .i64 x], .agg #[.int .i64 a, .int .i64 b, .int .i64 d], .agg #[.int .i64 2, .int .i64 o, .int .i64 s, .int .i64 t]] w fun e w' => e = .returned (.int .i64 (sizeI c h x)) ∧ Below w.heap.size w w' := by
  go_enter Try.func59, Try.ntmps59
  go_wp2_with fail
  refine (rsize_any c h x _).mono ?_
  rintro e w1 ⟨rfl, hb⟩
  have HB := Lib.hid (chain (below_threeB w _ _ _) hb)
  clear hb
  go_wp2_with fail
  go_ret
  exact ⟨rfl, HB.out⟩
set_option maxHeartbeats 1000000 in
theorem rproducts_none (k o s t c h x a b d : Int) (w : World) (k1 : (k == 1) = false) (k2 : (k == 2) = false) (k4 : (k == 4) = false) :
    Calls Try.prog 59 #[.agg #[.int .i64 c, .int .i64 h, .int .i64 x], .agg #[.int .i64 a, .int .i64 b, .int .i64 d], .agg #[.int .i64 k, .int .i64 o, .int .i64 s, .int .i64 t]] w fun e w' => e = .returned (.int .i64 0) ∧ Below w.heap.size w w' := by
  go_enter Try.func59, Try.ntmps59
  go_wp2
  go_ret
  exact ⟨rfl, by repeat first | exact Below.refl _ _ | refine chain_alloc ?_ _⟩
/-- The document's own products. -/
theorem rproducts_any (S : Sh) (l : Ly) (T : Sh) (a : Int) (n : Int) (hk : KnOk ⟨l, S, T, a⟩) (hn : pI S T l = n) (w : World) :
    Calls Try.prog 59 #[.agg #[.int .i64 S.c, .int .i64 S.h, .int .i64 S.x], .agg #[.int .i64 T.c, .int .i64 T.h, .int .i64 T.x], .agg #[.int .i64 l.k, .int .i64 l.o, .int .i64 l.s, .int .i64 l.t]] w fun e w' => e = .returned (.int .i64 n) ∧ Below w.heap.size w w' := by
  subst hn
  obtain ⟨k, o, s, t⟩ := l
  by_cases k1 : k = 1
  · subst k1
    rw [p_conv _ _ rfl]
    exact rproducts_conv o s t S.c S.h S.x T.c T.h T.x a _ w rfl hk
  · by_cases k2 : k = 2
    · subst k2
      rw [p_square _ _ rfl]
      exact rproducts_square o s t S.c S.h S.x T.c T.h T.x w
    · by_cases k4 : k = 4
      · subst k4
        rw [p_dense _ _ rfl]
        exact rproducts_dense o s t S.c S.h S.x T.c T.h T.x a _ w rfl hk
      · rw [p_none (l := ⟨k, o, s, t⟩) _ _ k1 k2 k4]
        exact rproducts_none k o s t S.c S.h S.x T.c T.h T.x w (ne_beq k1) (ne_beq k2) (ne_beq k4)

end Go.Proofs.Ytnfmpladdfgadaa
