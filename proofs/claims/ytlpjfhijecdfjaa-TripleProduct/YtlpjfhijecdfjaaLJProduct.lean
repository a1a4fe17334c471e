/-
  TripleProduct: the sum of both Cs is the product of the sums of both As and both Bs.
-/
import Derived.Test.YtlpjfhijecdfjaaJHead
namespace Go.Proofs.Ytlpjfhijecdfjaa
open Go.RowKit

set_option maxHeartbeats 4000000 in
set_option maxRecDepth 100000 in
theorem law_jproduct (s i : UInt64) (a : Int) (w : World) :
    Calls Try.prog 4 #[.int .u64 (uz s), .int .u64 (uz i), .int .i64 a] w fun e w' => e = .returned (.bool true) ∧ Below w.heap.size w w' := by
  obtain ⟨ta, hta⟩ : ∃ t, t = halfU s 0 i := ⟨_, rfl⟩
  obtain ⟨tb, htb⟩ : ∃ t, t = halfU s 1 i := ⟨_, rfl⟩
  have P : ta.c + tb.c = (ta.a + tb.a) * (ta.b + tb.b) := by rw [hta, htb, half_product]
  obtain ⟨p, hp⟩ : ∃ p, p = (ta.a + tb.a) * (ta.b + tb.b) := ⟨_, rfl⟩
  have e1 : IntKind.u64.wrap (uz ta.c + uz tb.c) = uz p := by rw [hp, ← P]; exact uz_add _ _
  have e2 : IntKind.u64.wrap (uz ta.a + uz tb.a) = uz (ta.a + tb.a) := uz_add _ _
  have e3 : IntKind.u64.wrap (uz ta.b + uz tb.b) = uz (ta.b + tb.b) := uz_add _ _
  have e4 : IntKind.u64.wrap (uz (ta.a + tb.a) * uz (ta.b + tb.b)) = uz p := by rw [hp]; exact uz_mul _ _
  have C0 : Hid (∀ w, Calls Try.prog 11 #[.int .u64 (uz s), .int .i64 0, .int .u64 (uz i)] w fun e w' => e = .returned (tpv ta) ∧ Below w.heap.size w w') := fun w => by rw [hta]; exact half11 s 0 i w
  have C1 : Hid (∀ w, Calls Try.prog 11 #[.int .u64 (uz s), .int .i64 1, .int .u64 (uz i)] w fun e w' => e = .returned (tpv tb) ∧ Below w.heap.size w w') := fun w => by rw [htb]; exact half11 s 1 i w
  have heq := tp_eq ta
  have heq2 := tp_eq tb
  by_cases h0 : a = 0
  · subst h0
    clear hta htb P hp
    go_enter Try.func4, Try.ntmps4
    go_wp2_with fail
    refine (head11_any _).mono ?_
    rintro e w1 ⟨rfl, hb⟩
    have B1 := Lib.hid hb
    clear hb
    go_wp2_with fail
    refine (C0.out _).mono ?_
    rintro e w2 ⟨rfl, hb⟩
    have B2 := Lib.hid (chain B1.out hb)
    clear hb B1
    unfold tpv
    go_wp2_with fail
    obtain ⟨w3, hV⟩ : ∃ V, V = w2.alloc (.cells #[.int .u64 (uz ta.a), .int .u64 (uz ta.b), .int .u64 (uz ta.c)] 25) := ⟨_, rfl⟩
    have hb : Below w2.heap.size w2 w3 := by rw [hV]; exact (Below.refl _ w2).alloc (Nat.le_refl _) _
    obtain ⟨bkx, hB⟩ : ∃ b, b = w2.heap.size := ⟨_, rfl⟩
    have Rx : Hid (TC w3 bkx ta) := by rw [hV, hB]; exact TC.new w2 ta
    rw [← hV, ← hB]
    clear hV hB
    have B3 := Lib.hid (chain B2.out hb)
    clear hb B2
    obtain ⟨x0, x1, x2⟩ := Rx.out.cells
    have xl := Rx.out.lt
    refine (C1.out _).mono ?_
    rintro e w4 ⟨rfl, hb⟩
    have B4 := Lib.hid (chain B3.out hb)
    replace Rx := Lib.hid (Rx.out.below hb)
    clear hb B3
    clear x0 x1 x2 xl
    obtain ⟨x0, x1, x2⟩ := Rx.out.cells
    have xl := Rx.out.lt
    unfold tpv
    go_wp2_with fail
    obtain ⟨w5, hV⟩ : ∃ V, V = w4.alloc (.cells #[.int .u64 (uz tb.a), .int .u64 (uz tb.b), .int .u64 (uz tb.c)] 25) := ⟨_, rfl⟩
    have hb : Below w4.heap.size w4 w5 := by rw [hV]; exact (Below.refl _ w4).alloc (Nat.le_refl _) _
    obtain ⟨bky, hB⟩ : ∃ b, b = w4.heap.size := ⟨_, rfl⟩
    have Ry : Hid (TC w5 bky tb) := by rw [hV, hB]; exact TC.new w4 tb
    rw [← hV, ← hB]
    clear hV hB
    have B5 := Lib.hid (chain B4.out hb)
    replace Rx := Lib.hid (Rx.out.below hb)
    clear hb B4
    clear x0 x1 x2 xl
    obtain ⟨x0, x1, x2⟩ := Rx.out.cells
    have xl := Rx.out.lt
    obtain ⟨y0, y1, y2⟩ := Ry.out.cells
    have yl := Ry.out.lt
    refine (C0.out _).mono ?_
    rintro e w6 ⟨rfl, hb⟩
    have B6 := Lib.hid (chain B5.out hb)
    replace Rx := Lib.hid (Rx.out.below hb)
    replace Ry := Lib.hid (Ry.out.below hb)
    clear hb B5
    clear x0 x1 x2 xl
    obtain ⟨x0, x1, x2⟩ := Rx.out.cells
    have xl := Rx.out.lt
    clear y0 y1 y2 yl
    obtain ⟨y0, y1, y2⟩ := Ry.out.cells
    have yl := Ry.out.lt
    unfold tpv
    go_wp2_with fail
    obtain ⟨w7, hV⟩ : ∃ V, V = w6.alloc (.cells #[.int .u64 (uz ta.a), .int .u64 (uz ta.b), .int .u64 (uz ta.c)] 25) := ⟨_, rfl⟩
    have hb : Below w6.heap.size w6 w7 := by rw [hV]; exact (Below.refl _ w6).alloc (Nat.le_refl _) _
    obtain ⟨bkz, hB⟩ : ∃ b, b = w6.heap.size := ⟨_, rfl⟩
    have Rz : Hid (TC w7 bkz ta) := by rw [hV, hB]; exact TC.new w6 ta
    rw [← hV, ← hB]
    clear hV hB
    have B7 := Lib.hid (chain B6.out hb)
    replace Rx := Lib.hid (Rx.out.below hb)
    replace Ry := Lib.hid (Ry.out.below hb)
    clear hb B6
    clear x0 x1 x2 xl
    obtain ⟨x0, x1, x2⟩ := Rx.out.cells
    have xl := Rx.out.lt
    clear y0 y1 y2 yl
    obtain ⟨y0, y1, y2⟩ := Ry.out.cells
    have yl := Ry.out.lt
    obtain ⟨z0, z1, z2⟩ := Rz.out.cells
    have zl := Rz.out.lt
    go_ret
    exact ⟨rfl, B7.out⟩
  · have C2 : Hid (∀ w, Calls Try.prog 11 #[.int .u64 (uz s), .int .i64 a, .int .u64 (uz i)] w fun e w' => e = .returned (tpv tb) ∧ Below w.heap.size w w') := fun w => by rw [htb, ← half_who h0]; exact half11 s a i w
    have d0 : (a == 0) = false := by simp [h0]
    have d1 : (a != 0) = true := by simp [h0]
    clear hta htb P hp h0
    go_enter Try.func4, Try.ntmps4
    go_wp2_with fail
    refine (head11_any _).mono ?_
    rintro e w1 ⟨rfl, hb⟩
    have B1 := Lib.hid hb
    clear hb
    go_wp2_with fail
    refine (C0.out _).mono ?_
    rintro e w2 ⟨rfl, hb⟩
    have B2 := Lib.hid (chain B1.out hb)
    clear hb B1
    unfold tpv
    go_wp2_with fail
    obtain ⟨w3, hV⟩ : ∃ V, V = w2.alloc (.cells #[.int .u64 (uz ta.a), .int .u64 (uz ta.b), .int .u64 (uz ta.c)] 25) := ⟨_, rfl⟩
    have hb : Below w2.heap.size w2 w3 := by rw [hV]; exact (Below.refl _ w2).alloc (Nat.le_refl _) _
    obtain ⟨bkx, hB⟩ : ∃ b, b = w2.heap.size := ⟨_, rfl⟩
    have Rx : Hid (TC w3 bkx ta) := by rw [hV, hB]; exact TC.new w2 ta
    rw [← hV, ← hB]
    clear hV hB
    have B3 := Lib.hid (chain B2.out hb)
    clear hb B2
    obtain ⟨x0, x1, x2⟩ := Rx.out.cells
    have xl := Rx.out.lt
    refine (C1.out _).mono ?_
    rintro e w4 ⟨rfl, hb⟩
    have B4 := Lib.hid (chain B3.out hb)
    replace Rx := Lib.hid (Rx.out.below hb)
    clear hb B3
    clear x0 x1 x2 xl
    obtain ⟨x0, x1, x2⟩ := Rx.out.cells
    have xl := Rx.out.lt
    unfold tpv
    go_wp2_with fail
    obtain ⟨w5, hV⟩ : ∃ V, V = w4.alloc (.cells #[.int .u64 (uz tb.a), .int .u64 (uz tb.b), .int .u64 (uz tb.c)] 25) := ⟨_, rfl⟩
    have hb : Below w4.heap.size w4 w5 := by rw [hV]; exact (Below.refl _ w4).alloc (Nat.le_refl _) _
    obtain ⟨bky, hB⟩ : ∃ b, b = w4.heap.size := ⟨_, rfl⟩
    have Ry : Hid (TC w5 bky tb) := by rw [hV, hB]; exact TC.new w4 tb
    rw [← hV, ← hB]
    clear hV hB
    have B5 := Lib.hid (chain B4.out hb)
    replace Rx := Lib.hid (Rx.out.below hb)
    clear hb B4
    clear x0 x1 x2 xl
    obtain ⟨x0, x1, x2⟩ := Rx.out.cells
    have xl := Rx.out.lt
    obtain ⟨y0, y1, y2⟩ := Ry.out.cells
    have yl := Ry.out.lt
    refine (C2.out _).mono ?_
    rintro e w6 ⟨rfl, hb⟩
    have B6 := Lib.hid (chain B5.out hb)
    replace Rx := Lib.hid (Rx.out.below hb)
    replace Ry := Lib.hid (Ry.out.below hb)
    clear hb B5
    clear x0 x1 x2 xl
    obtain ⟨x0, x1, x2⟩ := Rx.out.cells
    have xl := Rx.out.lt
    clear y0 y1 y2 yl
    obtain ⟨y0, y1, y2⟩ := Ry.out.cells
    have yl := Ry.out.lt
    unfold tpv
    go_wp2_with fail
    obtain ⟨w7, hV⟩ : ∃ V, V = w6.alloc (.cells #[.int .u64 (uz tb.a), .int .u64 (uz tb.b), .int .u64 (uz tb.c)] 25) := ⟨_, rfl⟩
    have hb : Below w6.heap.size w6 w7 := by rw [hV]; exact (Below.refl _ w6).alloc (Nat.le_refl _) _
    obtain ⟨bkz, hB⟩ : ∃ b, b = w6.heap.size := ⟨_, rfl⟩
    have Rz : Hid (TC w7 bkz tb) := by rw [hV, hB]; exact TC.new w6 tb
    rw [← hV, ← hB]
    clear hV hB
    have B7 := Lib.hid (chain B6.out hb)
    replace Rx := Lib.hid (Rx.out.below hb)
    replace Ry := Lib.hid (Ry.out.below hb)
    clear hb B6
    clear x0 x1 x2 xl
    obtain ⟨x0, x1, x2⟩ := Rx.out.cells
    have xl := Rx.out.lt
    clear y0 y1 y2 yl
    obtain ⟨y0, y1, y2⟩ := Ry.out.cells
    have yl := Ry.out.lt
    obtain ⟨z0, z1, z2⟩ := Rz.out.cells
    have zl := Rz.out.lt
    go_ret
    exact ⟨rfl, B7.out⟩

end Go.Proofs.Ytlpjfhijecdfjaa
