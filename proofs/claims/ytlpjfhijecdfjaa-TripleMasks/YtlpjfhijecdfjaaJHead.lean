/-
  The fixed questions of layer 11.
-/
import Derived.Test.YtlpjfhijecdfjaaJPub
import Derived.Test.YtlpjfhijecdfjaaJRef
namespace Go.Proofs.Ytlpjfhijecdfjaa
open Go.RowKit

theorem h11a : uz (numU 0 (5 * 0)) = 16294208416658607535 := by kernel_rfl
theorem h11b : uz (numU 0 (5 * 0 + 1)) = 7960286522194355700 := by kernel_rfl
theorem h11c : (uz (numU 0 (5 * 0 + 3)) != 0) = true := by kernel_rfl
theorem h11r : (rowTN 0 0 0 3).length = 3 := by unfold rowTN; rw [if_pos (by decide), trow_len]; rfl
theorem h11n : (rowTN 0 0 0 4097).length = 0 := by unfold rowTN; rw [if_neg (by decide)]; rfl

set_option maxHeartbeats 4000000 in
set_option maxRecDepth 100000 in
theorem head11_any (w : World) : Calls Try.prog 10 #[] w fun e w' => e = .returned (.bool true) ∧ Below w.heap.size w w' := by
  obtain ⟨ta, hta⟩ : ∃ t, t = halfU 0 0 0 := ⟨_, rfl⟩
  obtain ⟨tb, htb⟩ : ∃ t, t = halfU 0 1 0 := ⟨_, rfl⟩
  have P : (uz (ta.c + tb.c) == uz ((ta.a + tb.a) * (ta.b + tb.b))) = true := by rw [hta, htb, half_product]; simp
  have g1 : (uz ta.a == 16294208416658607535) = true := by rw [hta, half_zero]; show (uz (numU 0 (5 * 0)) == _) = true; rw [h11a]; rfl
  have g2 : (uz ta.b == 7960286522194355700) = true := by rw [hta, half_zero]; show (uz (numU 0 (5 * 0 + 1)) == _) = true; rw [h11b]; rfl
  have g3 : (uz tb.a != 0) = true := by rw [htb, half_one (by decide)]; exact h11c
  have e1 : IntKind.u64.wrap (uz ta.c + uz tb.c) = uz (ta.c + tb.c) := uz_add _ _
  have e2 : IntKind.u64.wrap (uz ta.a + uz tb.a) = uz (ta.a + tb.a) := uz_add _ _
  have e3 : IntKind.u64.wrap (uz ta.b + uz tb.b) = uz (ta.b + tb.b) := uz_add _ _
  have e4 : IntKind.u64.wrap (uz (ta.a + tb.a) * uz (ta.b + tb.b)) = uz ((ta.a + tb.a) * (ta.b + tb.b)) := uz_mul _ _
  have C0 : Hid (∀ w, Calls Try.prog 11 #[.int .u64 0, .int .i64 0, .int .u64 0] w fun e w' => e = .returned (tpv ta) ∧ Below w.heap.size w w') := fun w => by rw [hta]; exact half11 0 0 0 w
  have C1 : Hid (∀ w, Calls Try.prog 11 #[.int .u64 0, .int .i64 1, .int .u64 0] w fun e w' => e = .returned (tpv tb) ∧ Below w.heap.size w w') := fun w => by rw [htb]; exact half11 0 1 0 w
  clear hta htb
  go_enter Try.func10, Try.ntmps10
  go_wp2_with fail
  refine (C0.out _).mono ?_
  rintro e w1 ⟨rfl, hb⟩
  have B1 := Lib.hid hb
  clear hb
  unfold tpv
  go_wp2_with fail
  obtain ⟨w2, hV⟩ : ∃ V, V = w1.alloc (.cells #[.int .u64 (uz ta.a), .int .u64 (uz ta.b), .int .u64 (uz ta.c)] 25) := ⟨_, rfl⟩
  have hb : Below w1.heap.size w1 w2 := by rw [hV]; exact (Below.refl _ w1).alloc (Nat.le_refl _) _
  obtain ⟨bka, hB⟩ : ∃ b, b = w1.heap.size := ⟨_, rfl⟩
  have Ra : Hid (TC w2 bka ta) := by rw [hV, hB]; exact TC.new w1 ta
  rw [← hV, ← hB]
  clear hV hB
  have B2 := Lib.hid (chain B1.out hb)
  clear hb B1
  obtain ⟨a0, a1, a2⟩ := Ra.out.cells
  have al := Ra.out.lt
  refine (C1.out _).mono ?_
  rintro e w3 ⟨rfl, hb⟩
  have B3 := Lib.hid (chain B2.out hb)
  replace Ra := Lib.hid (Ra.out.below hb)
  clear hb B2
  clear a0 a1 a2 al
  obtain ⟨a0, a1, a2⟩ := Ra.out.cells
  have al := Ra.out.lt
  unfold tpv
  go_wp2_with fail
  obtain ⟨w4, hV⟩ : ∃ V, V = w3.alloc (.cells #[.int .u64 (uz tb.a), .int .u64 (uz tb.b), .int .u64 (uz tb.c)] 25) := ⟨_, rfl⟩
  have hb : Below w3.heap.size w3 w4 := by rw [hV]; exact (Below.refl _ w3).alloc (Nat.le_refl _) _
  obtain ⟨bkb, hB⟩ : ∃ b, b = w3.heap.size := ⟨_, rfl⟩
  have Rb : Hid (TC w4 bkb tb) := by rw [hV, hB]; exact TC.new w3 tb
  rw [← hV, ← hB]
  clear hV hB
  have B4 := Lib.hid (chain B3.out hb)
  replace Ra := Lib.hid (Ra.out.below hb)
  clear hb B3
  clear a0 a1 a2 al
  obtain ⟨a0, a1, a2⟩ := Ra.out.cells
  have al := Ra.out.lt
  obtain ⟨b0, b1, b2⟩ := Rb.out.cells
  have bl := Rb.out.lt
  refine (row11 0 0 0 3 _).mono ?_
  rintro e w5 ⟨Ar, kr, nr, rfl, h1, h2, hb, h4, h5⟩
  have Mr := Lib.hid h1; have Rr := Lib.hid h2
  clear h1 h2 h4 h5
  have B5 := Lib.hid (chain B4.out hb)
  replace Ra := Lib.hid (Ra.out.below hb)
  replace Rb := Lib.hid (Rb.out.below hb)
  clear hb B4
  clear a0 a1 a2 al
  obtain ⟨a0, a1, a2⟩ := Ra.out.cells
  have al := Ra.out.lt
  clear b0 b1 b2 bl
  obtain ⟨b0, b1, b2⟩ := Rb.out.cells
  have bl := Rb.out.lt
  obtain rfl : nr = 3 := Mr.out.trans h11r
  go_wp2_with fail
  refine (row11 0 0 0 4097 _).mono ?_
  rintro e w6 ⟨Aq, kq, nq, rfl, h1, h2, hb, h4, h5⟩
  have Mq := Lib.hid h1; have Rq := Lib.hid h2
  clear h1 h2 h4 h5
  have B6 := Lib.hid (chain B5.out hb)
  replace Ra := Lib.hid (Ra.out.below hb)
  replace Rb := Lib.hid (Rb.out.below hb)
  replace Rr := Lib.hid (Rr.out.below hb)
  clear hb B5
  clear a0 a1 a2 al
  obtain ⟨a0, a1, a2⟩ := Ra.out.cells
  have al := Ra.out.lt
  clear b0 b1 b2 bl
  obtain ⟨b0, b1, b2⟩ := Rb.out.cells
  have bl := Rb.out.lt
  obtain rfl : nq = 0 := Mq.out.trans h11n
  go_wp2_with fail
  go_ret
  exact ⟨rfl, B6.out⟩

end Go.Proofs.Ytlpjfhijecdfjaa
