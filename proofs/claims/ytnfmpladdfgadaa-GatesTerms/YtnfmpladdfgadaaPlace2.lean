/-
  What place answers of a square and of a dense layer; of any layer that has a form.
-/
import Derived.Test.YtnfmpladdfgadaaPlace
namespace Go.Proofs.Ytnfmpladdfgadaa
open Go.RowKit

set_option maxHeartbeats 4000000 in
theorem place_square (o s t c h x a : Int) (w : World) :
    Calls Try.prog 85 #[.agg #[.int .i64 2, .int .i64 o, .int .i64 s, .int .i64 t], .agg #[.int .i64 c, .int .i64 h, .int .i64 x], .int .i64 a] w fun e w' => e = .returned (.agg #[.int .i64 2, .int .i64 o, .int .i64 s, .int .i64 t, .int .i64 c, .int .i64 h, .int .i64 x, .int .i64 c, .int .i64 h, .int .i64 x, .int .i64 a]) ∧ Below w.heap.size w w' := by
  go_enter Try.func85, Try.ntmps85
  go_wp2_with fail
  obtain ⟨W2, hW2⟩ : ∃ W2, W2 = (((w.alloc (.cells #[.int .i64 2, .int .i64 o, .int .i64 s, .int .i64 t] 71)).alloc (.cells #[.int .i64 c, .int .i64 h, .int .i64 x] 23)).alloc (.cells #[.int .i64 0, .int .i64 0, .int .i64 0, .int .i64 0, .int .i64 0, .int .i64 0, .int .i64 0, .int .i64 0, .int .i64 0, .int .i64 0, .int .i64 0] 76)).alloc (.cells #[.int .i64 2, .int .i64 o, .int .i64 s, .int .i64 t, .int .i64 c, .int .i64 h, .int .i64 x, .int .i64 c, .int .i64 h, .int .i64 x, .int .i64 a] 76) := ⟨_, rfl⟩
  rw [← hW2]
  obtain ⟨hR, hK⟩ := kb_four w (.cells #[.int .i64 2, .int .i64 o, .int .i64 s, .int .i64 t] 71) (.cells #[.int .i64 c, .int .i64 h, .int .i64 x] 23) Kn.z ⟨⟨2, o, s, t⟩, ⟨c, h, x⟩, ⟨c, h, x⟩, a⟩ _ _ rfl rfl
  have HR2 : Hid (KB W2 (w.heap.size + 1 + 1) Kn.z) := by rw [hW2]; exact hR
  have HK2 : Hid (KB W2 (w.heap.size + 1 + 1 + 1) ⟨⟨2, o, s, t⟩, ⟨c, h, x⟩, ⟨c, h, x⟩, a⟩) := by rw [hW2]; exact hK
  have HB2 : Hid (Below w.heap.size w W2) := by rw [hW2]; exact below_four w _ _ _ _
  clear hR hK hW2
  refine (must_yes 21 _).mono ?_
  rintro e w' ⟨rfl, rfl⟩
  have R2 := HR2.out
  obtain ⟨r0, r1, r2, r3, r4, r5, r6, r7, r8, r9, r10⟩ := HK2.out.cells
  obtain ⟨y0, y1, y2, y3, y4, y5, y6, y7, y8, y9, y10⟩ := R2.cells
  have f0 := R2.frozen 0
  have f1 := R2.frozen 1
  have f2 := R2.frozen 2
  have f3 := R2.frozen 3
  have f4 := R2.frozen 4
  have f5 := R2.frozen 5
  have f6 := R2.frozen 6
  have f7 := R2.frozen 7
  have f8 := R2.frozen 8
  have f9 := R2.frozen 9
  have f10 := R2.frozen 10
  clear R2
  go_wp2_with fail
  exact bodyPost_ret (v := .agg #[.int .i64 2, .int .i64 o, .int .i64 s, .int .i64 t, .int .i64 c, .int .i64 h, .int .i64 x, .int .i64 c, .int .i64 h, .int .i64 x, .int .i64 a]) (by simp [results, Try.results85, go_sem, y0, y1, y2, y3, y4, y5, y6, y7, y8, y9, y10]) rfl ⟨rfl, (((((((((((HB2.out.setCell (p := ⟨w.heap.size + 1 + 1, 0, none⟩) (by show w.heap.size ≤ w.heap.size + 1 + 1; omega) _).setCell (p := ⟨w.heap.size + 1 + 1, 1, none⟩) (by show w.heap.size ≤ w.heap.size + 1 + 1; omega) _).setCell (p := ⟨w.heap.size + 1 + 1, 2, none⟩) (by show w.heap.size ≤ w.heap.size + 1 + 1; omega) _).setCell (p := ⟨w.heap.size + 1 + 1, 3, none⟩) (by show w.heap.size ≤ w.heap.size + 1 + 1; omega) _).setCell (p := ⟨w.heap.size + 1 + 1, 4, none⟩) (by show w.heap.size ≤ w.heap.size + 1 + 1; omega) _).setCell (p := ⟨w.heap.size + 1 + 1, 5, none⟩) (by show w.heap.size ≤ w.heap.size + 1 + 1; omega) _).setCell (p := ⟨w.heap.size + 1 + 1, 6, none⟩) (by show w.heap.size ≤ w.heap.size + 1 + 1; omega) _).setCell (p := ⟨w.heap.size + 1 + 1, 7, none⟩) (by show w.heap.size ≤ w.heap.size + 1 + 1; omega) _).setCell (p := ⟨w.heap.size + 1 + 1, 8, none⟩) (by show w.heap.size ≤ w.heap.size + 1 + 1; omega) _).setCell (p := ⟨w.heap.size + 1 + 1, 9, none⟩) (by show w.heap.size ≤ w.heap.size + 1 + 1; omega) _).setCell (p := ⟨w.heap.size + 1 + 1, 10, none⟩) (by show w.heap.size ≤ w.heap.size + 1 + 1; omega) _)⟩

set_option maxHeartbeats 4000000 in
theorem place_dense_true (o s t c h x a : Int) (w : World) (hq : rightB o 1 1 = true) :
    Calls Try.prog 85 #[.agg #[.int .i64 4, .int .i64 o, .int .i64 s, .int .i64 t], .agg #[.int .i64 c, .int .i64 h, .int .i64 x], .int .i64 a] w fun e w' => e = .returned (.agg #[.int .i64 4, .int .i64 o, .int .i64 s, .int .i64 t, .int .i64 c, .int .i64 h, .int .i64 x, .int .i64 o, .int .i64 1, .int .i64 1, .int .i64 a]) ∧ Below w.heap.size w w' := by
  have HQ := Lib.hid hq
  clear hq
  go_enter Try.func85, Try.ntmps85
  go_wp2_with fail
  refine (right_any o 1 1 _).mono ?_
  rintro e W2 ⟨rfl, hb⟩
  rw [HQ.out]
  have HB2 := Lib.hid (chain (below_four w _ _ _ _) hb)
  obtain ⟨hR, hK⟩ := kb_four w (.cells #[.int .i64 4, .int .i64 o, .int .i64 s, .int .i64 t] 71) (.cells #[.int .i64 c, .int .i64 h, .int .i64 x] 23) Kn.z ⟨⟨4, o, s, t⟩, ⟨c, h, x⟩, ⟨o, 1, 1⟩, a⟩ _ _ rfl rfl
  have HR2 := Lib.hid (hR.below hb)
  have HK2 := Lib.hid (hK.below hb)
  clear hb hR hK
  go_wp2_with fail
  refine (must_yes 21 _).mono ?_
  rintro e w' ⟨rfl, rfl⟩
  have R2 := HR2.out
  obtain ⟨r0, r1, r2, r3, r4, r5, r6, r7, r8, r9, r10⟩ := HK2.out.cells
  obtain ⟨y0, y1, y2, y3, y4, y5, y6, y7, y8, y9, y10⟩ := R2.cells
  have f0 := R2.frozen 0
  have f1 := R2.frozen 1
  have f2 := R2.frozen 2
  have f3 := R2.frozen 3
  have f4 := R2.frozen 4
  have f5 := R2.frozen 5
  have f6 := R2.frozen 6
  have f7 := R2.frozen 7
  have f8 := R2.frozen 8
  have f9 := R2.frozen 9
  have f10 := R2.frozen 10
  clear R2
  go_wp2_with fail
  exact bodyPost_ret (v := .agg #[.int .i64 4, .int .i64 o, .int .i64 s, .int .i64 t, .int .i64 c, .int .i64 h, .int .i64 x, .int .i64 o, .int .i64 1, .int .i64 1, .int .i64 a]) (by simp [results, Try.results85, go_sem, y0, y1, y2, y3, y4, y5, y6, y7, y8, y9, y10]) rfl ⟨rfl, (((((((((((HB2.out.setCell (p := ⟨w.heap.size + 1 + 1, 0, none⟩) (by show w.heap.size ≤ w.heap.size + 1 + 1; omega) _).setCell (p := ⟨w.heap.size + 1 + 1, 1, none⟩) (by show w.heap.size ≤ w.heap.size + 1 + 1; omega) _).setCell (p := ⟨w.heap.size + 1 + 1, 2, none⟩) (by show w.heap.size ≤ w.heap.size + 1 + 1; omega) _).setCell (p := ⟨w.heap.size + 1 + 1, 3, none⟩) (by show w.heap.size ≤ w.heap.size + 1 + 1; omega) _).setCell (p := ⟨w.heap.size + 1 + 1, 4, none⟩) (by show w.heap.size ≤ w.heap.size + 1 + 1; omega) _).setCell (p := ⟨w.heap.size + 1 + 1, 5, none⟩) (by show w.heap.size ≤ w.heap.size + 1 + 1; omega) _).setCell (p := ⟨w.heap.size + 1 + 1, 6, none⟩) (by show w.heap.size ≤ w.heap.size + 1 + 1; omega) _).setCell (p := ⟨w.heap.size + 1 + 1, 7, none⟩) (by show w.heap.size ≤ w.heap.size + 1 + 1; omega) _).setCell (p := ⟨w.heap.size + 1 + 1, 8, none⟩) (by show w.heap.size ≤ w.heap.size + 1 + 1; omega) _).setCell (p := ⟨w.heap.size + 1 + 1, 9, none⟩) (by show w.heap.size ≤ w.heap.size + 1 + 1; omega) _).setCell (p := ⟨w.heap.size + 1 + 1, 10, none⟩) (by show w.heap.size ≤ w.heap.size + 1 + 1; omega) _)⟩

set_option maxHeartbeats 4000000 in
theorem place_dense_false (o s t c h x a : Int) (w : World) (hq : rightB o 1 1 = false) :
    Calls Try.prog 85 #[.agg #[.int .i64 4, .int .i64 o, .int .i64 s, .int .i64 t], .agg #[.int .i64 c, .int .i64 h, .int .i64 x], .int .i64 a] w fun e w' => e = .panicked shapeWrong ∧ Below w.heap.size w w' := by
  have HQ := Lib.hid hq
  clear hq
  go_enter Try.func85, Try.ntmps85
  go_wp2_with fail
  refine (right_any o 1 1 _).mono ?_
  rintro e W2 ⟨rfl, hb⟩
  rw [HQ.out]
  have HB2 := Lib.hid (chain (below_four w _ _ _ _) hb)
  obtain ⟨hR, hK⟩ := kb_four w (.cells #[.int .i64 4, .int .i64 o, .int .i64 s, .int .i64 t] 71) (.cells #[.int .i64 c, .int .i64 h, .int .i64 x] 23) Kn.z ⟨⟨4, o, s, t⟩, ⟨c, h, x⟩, ⟨o, 1, 1⟩, a⟩ _ _ rfl rfl
  have HR2 := Lib.hid (hR.below hb)
  have HK2 := Lib.hid (hK.below hb)
  clear hb hR hK
  go_wp2_with fail
  refine (must_no 21 _).mono ?_
  rintro e w' ⟨rfl, rfl⟩
  go_wp2_with fail
  exact ⟨rfl, rfl, HB2.out⟩

theorem place_yes (l : Ly) (s : Sh) (a : Int) (w : World) (hk : lyB l = true) (ho : okS s l = true) :
    Calls Try.prog 85 #[.agg #[.int .i64 l.k, .int .i64 l.o, .int .i64 l.s, .int .i64 l.t], .agg #[.int .i64 s.c, .int .i64 s.h, .int .i64 s.x], .int .i64 a] w fun e w' => e = .returned (kv ⟨l, s, outS s l, a⟩) ∧ Below w.heap.size w w' := by
  have hc := ly_kind hk
  obtain ⟨k, o, z, t⟩ := l
  obtain ⟨c, h, x⟩ := s
  unfold kv
  rcases hc with hk | hk | hk | hk
  · obtain rfl : k = 1 := hk
    obtain ⟨e1, e2⟩ := out_conv ⟨c, h, x⟩ (l := ⟨1, o, z, t⟩) rfl
    rw [e1]
    rw [e2] at ho
    refine place_conv_true o z t c h x a _ _ _ w fun w => ?_
    have := conv_any c h x o z t w
    rwa [show convB c h x o z t = true from ho] at this
  · obtain rfl : k = 2 := hk
    rw [(out_square ⟨c, h, x⟩ (l := ⟨2, o, z, t⟩) rfl).1]
    exact place_square o z t c h x a w
  · obtain rfl : k = 3 := hk
    obtain ⟨e1, e2⟩ := out_pool ⟨c, h, x⟩ (l := ⟨3, o, z, t⟩) rfl
    rw [e1]
    rw [e2] at ho
    refine place_pool_true o z t c h x a _ _ _ w fun w => ?_
    have := pool_any c h x z w
    rwa [show poolB c h x z = true from ho] at this
  · obtain rfl : k = 4 := hk
    obtain ⟨e1, e2⟩ := out_dense ⟨c, h, x⟩ (l := ⟨4, o, z, t⟩) rfl
    rw [e1]
    rw [e2] at ho
    exact place_dense_true o z t c h x a w ho
theorem place_no (l : Ly) (s : Sh) (a : Int) (w : World) (hk : lyB l = true) (ho : okS s l = false) :
    Calls Try.prog 85 #[.agg #[.int .i64 l.k, .int .i64 l.o, .int .i64 l.s, .int .i64 l.t], .agg #[.int .i64 s.c, .int .i64 s.h, .int .i64 s.x], .int .i64 a] w fun e w' => e = .panicked shapeWrong ∧ Below w.heap.size w w' := by
  have hc := ly_kind hk
  obtain ⟨k, o, z, t⟩ := l
  obtain ⟨c, h, x⟩ := s
  rcases hc with hk | hk | hk | hk
  · obtain rfl : k = 1 := hk
    obtain ⟨e1, e2⟩ := out_conv ⟨c, h, x⟩ (l := ⟨1, o, z, t⟩) rfl
    rw [e2] at ho
    refine place_conv_false o z t c h x a (convC c h x o z t) (convH c h x o z t) (convW c h x o z t) w fun w => ?_
    have := conv_any c h x o z t w
    rwa [show convB c h x o z t = false from ho] at this
  · obtain rfl : k = 2 := hk
    rw [(out_square ⟨c, h, x⟩ (l := ⟨2, o, z, t⟩) rfl).2] at ho
    cases ho
  · obtain rfl : k = 3 := hk
    obtain ⟨e1, e2⟩ := out_pool ⟨c, h, x⟩ (l := ⟨3, o, z, t⟩) rfl
    rw [e2] at ho
    refine place_pool_false o z t c h x a (poolC c h x z) (poolH c h x z) (poolW c h x z) w fun w => ?_
    have := pool_any c h x z w
    rwa [show poolB c h x z = false from ho] at this
  · obtain rfl : k = 4 := hk
    obtain ⟨e1, e2⟩ := out_dense ⟨c, h, x⟩ (l := ⟨4, o, z, t⟩) rfl
    rw [e2] at ho
    exact place_dense_false o z t c h x a w ho

end Go.Proofs.Ytnfmpladdfgadaa
