/-
  What the document's own out, weights and products of a layer answer.
-/
import Derived.Test.YtnfmpladdfgadaaRefC
import Derived.Test.YtnfmpladdfgadaaKnown
import Derived.Test.YtnfmpladdfgadaaFacts
namespace Go.Proofs.Ytnfmpladdfgadaa
open Go.RowKit

theorem below_threeB (w : World) (a b d : Obj) : Below w.heap.size w (((w.alloc a).alloc b).alloc d) := by
  repeat first | exact Below.refl _ _ | refine chain_alloc ?_ _
theorem cell_three (w : World) (a b : Obj) (u v z : Value) (T : Nat) (w1 : World) (hb : Below (((w.alloc a).alloc b).alloc (.cells #[u, v, z] T)).heap.size (((w.alloc a).alloc b).alloc (.cells #[u, v, z] T)) w1) :
    w1.cell? ⟨w.heap.size + 1 + 1, 0, none⟩ = some u ∧ w1.cell? ⟨w.heap.size + 1 + 1, 1, none⟩ = some v ∧ w1.cell? ⟨w.heap.size + 1 + 1, 2, none⟩ = some z ∧ (∀ k, w1.frozen? ⟨w.heap.size + 1 + 1, k, none⟩ = false) ∧ w.heap.size + 1 + 1 < w1.heap.size := by
  have e : ((w.alloc a).alloc b).heap.size = w.heap.size + 1 + 1 := by simp
  have g := hb.block (w.heap.size + 1 + 1) (by simp)
  have h0 := heap_alloc_new ((w.alloc a).alloc b) (.cells #[u, v, z] T)
  rw [e] at h0
  rw [h0] at g
  refine ⟨?_, ?_, ?_, fun k => ?_, ?_⟩
  · rw [Lib.cell_of_heap g]; rfl
  · rw [Lib.cell_of_heap g]; rfl
  · rw [Lib.cell_of_heap g]; rfl
  · have := hb.frozen (p := ⟨w.heap.size + 1 + 1, k, none⟩) (by show w.heap.size + 1 + 1 < _; simp)
    rw [this]; go_simp
  · exact (Array.getElem?_eq_some_iff.1 g).1

set_option maxHeartbeats 1000000 in
theorem rout_conv (o s t c h x : Int) (w : World) :
    Calls Try.prog 57 #[.agg #[.int .i64 c, .int .i64 h, .int .i64 x], .agg #[.int .i64 1, .int .i64 o, .int .i64 s, .int .i64 t]] w (Out (convC c h x o s t) (convH c h x o s t) (convW c h x o s t) (convB c h x o s t) w) := by
  obtain ⟨a, ha⟩ : ∃ a, a = convC c h x o s t := ⟨_, rfl⟩
  obtain ⟨b, hb⟩ : ∃ b, b = convH c h x o s t := ⟨_, rfl⟩
  obtain ⟨d, hd⟩ : ∃ d, d = convW c h x o s t := ⟨_, rfl⟩
  obtain ⟨r, hr⟩ : ∃ r, r = convB c h x o s t := ⟨_, rfl⟩
  have HC : Hid (∀ w, Calls Try.prog 88 #[.agg #[.int .i64 c, .int .i64 h, .int .i64 x], .int .i64 o, .int .i64 s, .int .i64 t] w (Out a b d r w)) := fun w => by
    rw [ha, hb, hd, hr]; exact rconv_any c h x o s t w
  rw [← ha, ← hb, ← hd, ← hr]
  clear ha hb hd hr
  go_enter Try.func57, Try.ntmps57
  go_wp2_with fail
  refine (HC.out _).mono ?_
  rintro e w1 ⟨rfl, hb⟩
  obtain ⟨q0, q1, q2, fz, hz⟩ := cell_three w _ _ _ _ _ _ w1 hb
  have f0 := fz 0
  have f1 := fz 1
  have f2 := fz 2
  have HB := Lib.hid (chain (below_threeB w _ _ _) hb)
  clear hb fz
  go_wp2_with fail
  exact bodyPost_ret (v := .tuple #[.agg #[.int .i64 a, .int .i64 b, .int .i64 d], .bool r]) (by simp [results, Try.results57, go_sem, q0, q1, q2]) rfl ⟨rfl, ((HB.out.setCell (p := ⟨w.heap.size + 1 + 1, 0, none⟩) (by show w.heap.size ≤ w.heap.size + 1 + 1; omega) _).setCell (p := ⟨w.heap.size + 1 + 1, 1, none⟩) (by show w.heap.size ≤ w.heap.size + 1 + 1; omega) _).setCell (p := ⟨w.heap.size + 1 + 1, 2, none⟩) (by show w.heap.size ≤ w.heap.size + 1 + 1; omega) _⟩

set_option maxHeartbeats 1000000 in
theorem rout_pool (o s t c h x : Int) (w : World) :
    Calls Try.prog 57 #[.agg #[.int .i64 c, .int .i64 h, .int .i64 x], .agg #[.int .i64 3, .int .i64 o, .int .i64 s, .int .i64 t]] w (Out (poolC c h x s) (poolH c h x s) (poolW c h x s) (poolB c h x s) w) := by
  obtain ⟨a, ha⟩ : ∃ a, a = poolC c h x s := ⟨_, rfl⟩
  obtain ⟨b, hb⟩ : ∃ b, b = poolH c h x s := ⟨_, rfl⟩
  obtain ⟨d, hd⟩ : ∃ d, d = poolW c h x s := ⟨_, rfl⟩
  obtain ⟨r, hr⟩ : ∃ r, r = poolB c h x s := ⟨_, rfl⟩
  have HC : Hid (∀ w, Calls Try.prog 89 #[.agg #[.int .i64 c, .int .i64 h, .int .i64 x], .int .i64 s] w (Out a b d r w)) := fun w => by
    rw [ha, hb, hd, hr]; exact rpool_any c h x s w
  rw [← ha, ← hb, ← hd, ← hr]
  clear ha hb hd hr
  go_enter Try.func57, Try.ntmps57
  go_wp2_with fail
  refine (HC.out _).mono ?_
  rintro e w1 ⟨rfl, hb⟩
  obtain ⟨q0, q1, q2, fz, hz⟩ := cell_three w _ _ _ _ _ _ w1 hb
  have f0 := fz 0
  have f1 := fz 1
  have f2 := fz 2
  have HB := Lib.hid (chain (below_threeB w _ _ _) hb)
  clear hb fz
  go_wp2_with fail
  exact bodyPost_ret (v := .tuple #[.agg #[.int .i64 a, .int .i64 b, .int .i64 d], .bool r]) (by simp [results, Try.results57, go_sem, q0, q1, q2]) rfl ⟨rfl, ((HB.out.setCell (p := ⟨w.heap.size + 1 + 1, 0, none⟩) (by show w.heap.size ≤ w.heap.size + 1 + 1; omega) _).setCell (p := ⟨w.heap.size + 1 + 1, 1, none⟩) (by show w.heap.size ≤ w.heap.size + 1 + 1; omega) _).setCell (p := ⟨w.heap.size + 1 + 1, 2, none⟩) (by show w.heap.size ≤ w.heap.size + 1 + 1; omega) _⟩

set_option maxHeartbeats 1000000 in
theorem rout_square (o s t c h x : Int) (w : World) :
    Calls Try.prog 57 #[.agg #[.int .i64 c, .int .i64 h, .int .i64 x], .agg #[.int .i64 2, .int .i64 o, .int .i64 s, .int .i64 t]] w (Out c h x true w) := by
  go_enter Try.func57, Try.ntmps57
  go_wp2_with fail
  exact bodyPost_ret (v := .tuple #[.agg #[.int .i64 c, .int .i64 h, .int .i64 x], .bool true]) (by simp [results, Try.results57, go_sem]) rfl ⟨rfl, by repeat first | exact Below.refl _ _ | refine chain_alloc ?_ _⟩
set_option maxHeartbeats 1000000 in
theorem rout_dense (o s t c h x : Int) (w : World) (o1 : 1 ≤ o) (o2 : o ≤ 8) :
    Calls Try.prog 57 #[.agg #[.int .i64 c, .int .i64 h, .int .i64 x], .agg #[.int .i64 4, .int .i64 o, .int .i64 s, .int .i64 t]] w (Out o 1 1 true w) := by
  go_enter Try.func57, Try.ntmps57
  go_wp2_with fail
  exact bodyPost_ret (v := .tuple #[.agg #[.int .i64 o, .int .i64 1, .int .i64 1], .bool true]) (by simp [results, Try.results57, go_sem]) rfl ⟨rfl, by repeat first | exact Below.refl _ _ | refine chain_alloc ?_ _⟩
set_option maxHeartbeats 1000000 in
theorem rout_low (o s t c h x : Int) (w : World) (o1 : o < 1) :
    Calls Try.prog 57 #[.agg #[.int .i64 c, .int .i64 h, .int .i64 x], .agg #[.int .i64 4, .int .i64 o, .int .i64 s, .int .i64 t]] w (Out 0 0 0 false w) := by
  go_enter Try.func57, Try.ntmps57
  go_wp2_with fail
  exact bodyPost_ret (v := .tuple #[.agg #[.int .i64 0, .int .i64 0, .int .i64 0], .bool false]) (by simp [results, Try.results57, go_sem]) rfl ⟨rfl, by repeat first | exact Below.refl _ _ | refine chain_alloc ?_ _⟩
set_option maxHeartbeats 1000000 in
theorem rout_high (o s t c h x : Int) (w : World) (o1 : 8 < o) (o2 : 1 ≤ o) :
    Calls Try.prog 57 #[.agg #[.int .i64 c, .int .i64 h, .int .i64 x], .agg #[.int .i64 4, .int .i64 o, .int .i64 s, .int .i64 t]] w (Out 0 0 0 false w) := by
  go_enter Try.func57, Try.ntmps57
  go_wp2_with fail
  exact bodyPost_ret (v := .tuple #[.agg #[.int .i64 0, .int .i64 0, .int .i64 0], .bool false]) (by simp [results, Try.results57, go_sem]) rfl ⟨rfl, by repeat first | exact Below.refl _ _ | refine chain_alloc ?_ _⟩

theorem dense_ok {o : Int} : rightB o 1 1 = true ↔ 1 ≤ o ∧ o ≤ 8 := by
  constructor
  · intro h; obtain ⟨a, b, _⟩ := rightB_out h; exact ⟨a, b⟩
  · rintro ⟨a, b⟩; exact rightB_yes ⟨a, b, by omega, by omega, by omega, by omega, by omega⟩
/-- The document's own out. -/
theorem rout_any (S : Sh) (l : Ly) (T : Sh) (r : Bool) (hl : lyB l = true) (hr : okS S l = r) (hT : r = true → T = outS S l) (w : World) :
    Calls Try.prog 57 #[.agg #[.int .i64 S.c, .int .i64 S.h, .int .i64 S.x], .agg #[.int .i64 l.k, .int .i64 l.o, .int .i64 l.s, .int .i64 l.t]] w fun e w' =>
      ∃ U : Sh, (r = true → U = T) ∧ e = .returned (.tuple #[.agg #[.int .i64 U.c, .int .i64 U.h, .int .i64 U.x], .bool r]) ∧ Below w.heap.size w w' := by
  obtain ⟨k, o, s, t⟩ := l
  rcases ly_kind hl with hk | hk | hk | hk
  · obtain ⟨e1, e2⟩ := out_conv S hk
    obtain rfl : k = 1 := hk
    rw [e2] at hr
    refine (rout_conv o s t S.c S.h S.x w).mono ?_
    rintro e w' ⟨he, hb⟩
    refine ⟨outS S ⟨1, o, s, t⟩, fun h => (hT h).symm, ?_, hb⟩
    rw [he, ← hr, e1]
  · obtain ⟨e1, e2⟩ := out_square S hk
    obtain rfl : k = 2 := hk
    rw [e2] at hr
    refine (rout_square o s t S.c S.h S.x w).mono ?_
    rintro e w' ⟨he, hb⟩
    refine ⟨S, fun h => ?_, ?_, hb⟩
    · rw [hT h, e1]
    · rw [he, ← hr]
  · obtain ⟨e1, e2⟩ := out_pool S hk
    obtain rfl : k = 3 := hk
    rw [e2] at hr
    refine (rout_pool o s t S.c S.h S.x w).mono ?_
    rintro e w' ⟨he, hb⟩
    refine ⟨outS S ⟨3, o, s, t⟩, fun h => (hT h).symm, ?_, hb⟩
    rw [he, ← hr, e1]
  · obtain ⟨e1, e2⟩ := out_dense S hk
    obtain rfl : k = 4 := hk
    rw [e2] at hr
    have hr : rightB o 1 1 = r := hr
    by_cases p : 1 ≤ o ∧ o ≤ 8
    · rw [dense_ok.2 p] at hr
      refine (rout_dense o s t S.c S.h S.x w p.1 p.2).mono ?_
      rintro e w' ⟨he, hb⟩
      refine ⟨⟨o, 1, 1⟩, fun h => ?_, ?_, hb⟩
      · rw [hT h, e1]
      · rw [he, ← hr]
    · have hr0 : r = false := by
        cases r
        · rfl
        · exact absurd (dense_ok.1 hr) p
      by_cases q : o < 1
      · refine (rout_low o s t S.c S.h S.x w q).mono ?_
        rintro e w' ⟨he, hb⟩
        exact ⟨⟨0, 0, 0⟩, (fun h => by rw [hr0] at h; cases h), by rw [he, hr0], hb⟩
      · refine (rout_high o s t S.c S.h S.x w (by omega) (by omega)).mono ?_
        rintro e w' ⟨he, hb⟩
        exact ⟨⟨0, 0, 0⟩, (fun h => by rw [hr0] at h; cases h), by rw [he, hr0], hb⟩

set_option maxHeartbeats 1000000 in
theorem rweights_conv (o s t c h x : Int) (w : World) (o0 : 0 ≤ o) (o1 : o ≤ 8) (c0 : 0 ≤ c) (c1 : c ≤ 8) (s0 : 0 ≤ s) (s1 : s ≤ 12) :
    Calls Try.prog 58 #[.agg #[.int .i64 c, .int .i64 h, .int .i64 x], .agg #[.int .i64 1, .int .i64 o, .int .i64 s, .int .i64 t]] w fun e w' => e = .returned (.int .i64 (o * c * s * s)) ∧ Below w.heap.size w w' := by
  obtain ⟨b1, b2, b3, b4, b5, b6⟩ := conv_small o0 o1 c0 c1 s0 s1
  go_enter Try.func58, Try.ntmps58
  go_wp2
  go_ret
  exact ⟨rfl, by repeat first | exact Below.refl _ _ | refine chain_alloc ?_ _⟩
theorem rsize_is (c h x n : Int) (e : sizeI c h x = n) (w : World) :
    Calls Try.prog 52 #[.agg #[.int .i64 c, .int .i64 h, .int .i64 x]] w fun e w' => e = .returned (.int .i64 n) ∧ Below w.heap.size w w' := by
  have := rsize_any c h x w
  rwa [e] at this
set_option maxHeartbeats 1000000 in
theorem rweights_dense (o s t c h x : Int) (w : World) (o0 : 0 ≤ o) (o1 : o ≤ 8) :
    Calls Try.prog 58 #[.agg #[.int .i64 c, .int .i64 h, .int .i64 x], .agg #[.int .i64 4, .int .i64 o, .int .i64 s, .int .i64 t]] w fun e w' => e = .returned (.int .i64 (o * sizeI c h x)) ∧ Below w.heap.size w w' := by
  obtain ⟨n, hn⟩ : ∃ n, n = sizeI c h x := ⟨_, rfl⟩
  have hb : 0 ≤ n ∧ n ≤ 128 := by rw [hn]; exact sizeI_bd c h x
  obtain ⟨n0, n1⟩ := hb
  have HN := Lib.hid hn
  clear hn
  rw [← HN.out]
  obtain ⟨m0, m1⟩ := mul_bd o0 o1 n0 n1
  have m2 : o * n ≤ 1024 := by omega
  have V : Hid (IntKind.i64.wrap (o * n) = o * n) := IntWalk.i64_in _ (by omega)
  clear m1
  obtain ⟨W, hW⟩ : ∃ W, W = (w.alloc (.cells #[.int .i64 c, .int .i64 h, .int .i64 x] 23)).alloc (.cells #[.int .i64 4, .int .i64 o, .int .i64 s, .int .i64 t] 71) := ⟨_, rfl⟩
  have HBW : Hid (Below w.heap.size w W) := by rw [hW]; exact (by repeat first | exact Below.refl _ _ | refine chain_alloc ?_ _)
  have a0 : W.cell? ⟨w.heap.size, 0, none⟩ = some (.int .i64 c) := by rw [hW]; go_simp
  have a1 : W.cell? ⟨w.heap.size, 1, none⟩ = some (.int .i64 h) := by rw [hW]; go_simp
  have a2 : W.cell? ⟨w.heap.size, 2, none⟩ = some (.int .i64 x) := by rw [hW]; go_simp
  have a3 : W.cell? ⟨w.heap.size + 1, 1, none⟩ = some (.int .i64 o) := by rw [hW]; go_simp
  have hWl : w.heap.size < W.heap.size := by rw [hW]; simp; omega
  have hWm : w.heap.size + 1 < W.heap.size := by rw [hW]; simp
  go_enter Try.func58, Try.ntmps58
  go_wp2_with fail
  rw [← hW]
  clear hW
  have HC0 : Hid (Below W.heap.size W W.drew) := below_drew W
  have tok1 : True := trivial
  go_region_held3 (fun w' => w'.cell? ⟨w.heap.size, 0, none⟩ = some (.int .i64 c) ∧ w'.cell? ⟨w.heap.size, 1, none⟩ = some (.int .i64 h) ∧ w'.cell? ⟨w.heap.size, 2, none⟩ = some (.int .i64 x) ∧ w'.cell? ⟨w.heap.size + 1, 1, none⟩ = some (.int .i64 o))
    (first | exact ⟨q0, q1, q2, q3⟩ | go_keep)
    (first
      | ((have _t := tok1; clear tok1; go_at_call 52; (with_reducible refine (rsize_is c h x n HN.out.symm _).mono ?_); rintro e w1 ⟨rfl, hb1⟩
          have HC1 := Lib.hid (HC0.out.trans (hb1.mono HC0.out.size))
          have q0 := (HC1.out.cell (p := ⟨w.heap.size, 0, none⟩) hWl).trans a0
          have q1 := (HC1.out.cell (p := ⟨w.heap.size, 1, none⟩) hWl).trans a1
          have q2 := (HC1.out.cell (p := ⟨w.heap.size, 2, none⟩) hWl).trans a2
          have q3 := (HC1.out.cell (p := ⟨w.heap.size + 1, 1, none⟩) hWm).trans a3
          clear hb1))
      | fail)
  go_wp2_with fail
  go_ret
  exact ⟨ret_int V.out, HBW.out.trans (HC1.out.mono HBW.out.size)⟩
set_option maxHeartbeats 1000000 in
theorem rweights_none (k o s t c h x : Int) (w : World) (k1 : (k == 1) = false) (k4 : (k == 4) = false) :
    Calls Try.prog 58 #[.agg #[.int .i64 c, .int .i64 h, .int .i64 x], .agg #[.int .i64 k, .int .i64 o, .int .i64 s, .int .i64 t]] w fun e w' => e = .returned (.int .i64 0) ∧ Below w.heap.size w w' := by
  go_enter Try.func58, Try.ntmps58
  go_wp2
  go_ret
  exact ⟨rfl, by repeat first | exact Below.refl _ _ | refine chain_alloc ?_ _⟩
/-- The document's own weights. -/
theorem rweights_any (S : Sh) (l : Ly) (u : Sh) (a : Int) (n : Int) (hk : KnOk ⟨l, S, u, a⟩) (hn : wI S l = n) (w : World) :
    Calls Try.prog 58 #[.agg #[.int .i64 S.c, .int .i64 S.h, .int .i64 S.x], .agg #[.int .i64 l.k, .int .i64 l.o, .int .i64 l.s, .int .i64 l.t]] w fun e w' => e = .returned (.int .i64 n) ∧ Below w.heap.size w w' := by
  subst hn
  obtain ⟨k, o, s, t⟩ := l
  by_cases k1 : k = 1
  · subst k1
    obtain ⟨a1, a2, a3, a4, a5, a6, _⟩ := hk.1 rfl
    rw [w_conv _ rfl]
    exact rweights_conv o s t S.c S.h S.x w a1 a2 a3 a4 a5 a6
  · by_cases k4 : k = 4
    · subst k4
      obtain ⟨a1, a2⟩ := hk.2 rfl
      rw [w_dense _ rfl]
      exact rweights_dense o s t S.c S.h S.x w a1 a2
    · rw [w_none (l := ⟨k, o, s, t⟩) _ k1 k4]
      exact rweights_none k o s t S.c S.h S.x w (ne_beq k1) (ne_beq k4)

end Go.Proofs.Ytnfmpladdfgadaa
