/-
  What the document's own line and Print answer of networks: the same as package descr.
-/
import Derived.Test.YtmlflmlgjjjmfaaDoorRParse
namespace Go.Proofs.YtmlflmlgjjjmfaaDoor
open Go.RowKit

theorem ret_text {a : ByteArray} {l : List UInt8} (h : bl a = l) : Ending.returned (.string a) = .returned (.string (ba l)) := by rw [← h, ba_bl]
theorem line_lay {w : List UInt8} {ns : List Int} (hw : wordB w = true) (h : ns.all winB = true) : lineW w ns = (layL 32 (w :: ns.map numL)).dropLast := by
  unfold lineW joinL; rw [if_pos (line_words hw h)]
theorem line0 {w : List UInt8} (hw : wordB w = true) : lineW w [] = w := by
  rw [line_lay hw rfl]; simp [layL]
theorem line1 {w : List UInt8} {a : Int} (hw : wordB w = true) (ha : winB a = true) : lineW w [a] = w ++ [32] ++ numL a := by
  rw [line_lay hw (by simp [ha])]
  show (layL 32 ([w] ++ [numL a])).dropLast = _
  rw [lay_drop, layL_one]
theorem line3 {w : List UInt8} {a b c : Int} (hw : wordB w = true) (h : [a, b, c].all winB = true) : lineW w [a, b, c] = w ++ [32] ++ numL a ++ [32] ++ numL b ++ [32] ++ numL c := by
  rw [line_lay hw h]
  show (layL 32 ([w, numL a, numL b] ++ [numL c])).dropLast = _
  rw [lay_drop]; simp [layL]

set_option maxHeartbeats 4000000 in
set_option maxRecDepth 100000 in
theorem rline_conv (o s t : Int) (w : World) (hl : lyB ⟨1, o, s, t⟩ = true) :
    Calls Tryd.prog 33 #[.agg #[.int .i64 1, .int .i64 o, .int .i64 s, .int .i64 t]] w fun e w' => e = .returned (.string (ba (lyL ⟨1, o, s, t⟩))) ∧ Below w.heap.size w w' := by
  have h3 : [o, s, t].all winB = true := (lyB_parts hl).2.1
  have HL : Hid (lyL ⟨1, o, s, t⟩ = [99, 111, 110, 118] ++ [32] ++ numL o ++ [32] ++ numL s ++ [32] ++ numL t) := line3 (w := kw 1) (by decide) h3
  obtain ⟨x1, hx1⟩ : ∃ x, x = ba (numL o) := ⟨_, rfl⟩
  obtain ⟨x2, hx2⟩ : ∃ x, x = ba (numL s) := ⟨_, rfl⟩
  obtain ⟨x3, hx3⟩ : ∃ x, x = ba (numL t) := ⟨_, rfl⟩
  have z1 : x1.size ≤ 6 := by rw [hx1, ba_size]; exact num_len o
  have z2 : x2.size ≤ 6 := by rw [hx2, ba_size]; exact num_len s
  have z3 : x3.size ≤ 6 := by rw [hx3, ba_size]; exact num_len t
  have H1 := Lib.hid hx1; have H2 := Lib.hid hx2; have H3 := Lib.hid hx3
  clear hx1 hx2 hx3 h3 hl
  obtain ⟨W, hW⟩ : ∃ W, W = w.alloc (.cells #[.int .i64 1, .int .i64 o, .int .i64 s, .int .i64 t] 42) := ⟨_, rfl⟩
  have HBW : Hid (Below w.heap.size w W) := by rw [hW]; exact (Below.refl _ w).alloc (Nat.le_refl _) _
  have hI : IB W w.heap.size 42 [1, o, s, t] := by rw [hW]; exact ib_box w 42 [1, o, s, t]
  obtain ⟨_, a1, a2, a3, _, _, _, _⟩ := ib4 hI
  have hWl := hI.lt
  go_enter Tryd.func33, Tryd.ntmps33
  go_wp2_with fail
  rw [← hW]
  clear hW hI
  have HC0 : Hid (Below W.heap.size W W.drew) := below_drew W
  have tok1 : True := trivial
  have s1 : ¬ 9223372036854775807 < 5 + x1.size := by omega
  have s2 : ¬ 9223372036854775807 < 5 + x1.size + 1 := by omega
  have s3 : ¬ 9223372036854775807 < 5 + x1.size + 1 + x2.size := by omega
  have s4 : ¬ 9223372036854775807 < 5 + x1.size + 1 + x2.size + 1 := by omega
  have s5 : ¬ 9223372036854775807 < 5 + x1.size + 1 + x2.size + 1 + x3.size := by omega
  go_region_held3 (fun w' => w'.cell? ⟨w.heap.size, 1, none⟩ = some (.int .i64 o) ∧ w'.cell? ⟨w.heap.size, 2, none⟩ = some (.int .i64 s) ∧ w'.cell? ⟨w.heap.size, 3, none⟩ = some (.int .i64 t))
    (first | exact ⟨q1, q2, q3⟩ | go_keep)
    (first
      | ((have _t := tok1; clear tok1; go_at_call 32; (with_reducible refine (rnumber_any o _).mono ?_); rintro e w1 ⟨rfl, hb1⟩
          rw [← H1.out]
          have HC1 := Lib.hid (HC0.out.trans (hb1.mono HC0.out.size))
          have q1 := (HC1.out.cell (p := ⟨w.heap.size, 1, none⟩) hWl).trans a1
          have q2 := (HC1.out.cell (p := ⟨w.heap.size, 2, none⟩) hWl).trans a2
          have q3 := (HC1.out.cell (p := ⟨w.heap.size, 3, none⟩) hWl).trans a3
          have tok2 : True := trivial
          clear hb1))
      | ((have _t := tok2; clear tok2; go_at_call 32; (with_reducible refine (rnumber_any s _).mono ?_); rintro e w2 ⟨rfl, hb2⟩
          rw [← H2.out]
          have HC2 := Lib.hid (HC1.out.trans (hb2.mono HC1.out.size))
          have q1 := (HC2.out.cell (p := ⟨w.heap.size, 1, none⟩) hWl).trans a1
          have q2 := (HC2.out.cell (p := ⟨w.heap.size, 2, none⟩) hWl).trans a2
          have q3 := (HC2.out.cell (p := ⟨w.heap.size, 3, none⟩) hWl).trans a3
          have tok3 : True := trivial
          clear hb2))
      | ((have _t := tok3; clear tok3; go_at_call 32; (with_reducible refine (rnumber_any t _).mono ?_); rintro e w3 ⟨rfl, hb3⟩
          rw [← H3.out]
          have HC3 := Lib.hid (HC2.out.trans (hb3.mono HC2.out.size))
          have q1 := (HC3.out.cell (p := ⟨w.heap.size, 1, none⟩) hWl).trans a1
          have q2 := (HC3.out.cell (p := ⟨w.heap.size, 2, none⟩) hWl).trans a2
          have q3 := (HC3.out.cell (p := ⟨w.heap.size, 3, none⟩) hWl).trans a3
          have tok4 : True := trivial
          clear hb3))
      | fail)
  go_wp2_with fail
  go_ret
  refine ⟨ret_text ?_, HBW.out.trans (HC3.out.mono HBW.out.size)⟩
  rw [HL.out, bl_add, bl_add, bl_add, bl_add, bl_add, H1.out, H2.out, H3.out, bl_ba, bl_ba, bl_ba]; rfl

set_option maxHeartbeats 4000000 in
set_option maxRecDepth 100000 in
theorem rline_pool (o s t : Int) (w : World) (hl : lyB ⟨3, o, s, t⟩ = true) :
    Calls Tryd.prog 33 #[.agg #[.int .i64 3, .int .i64 o, .int .i64 s, .int .i64 t]] w fun e w' => e = .returned (.string (ba (lyL ⟨3, o, s, t⟩))) ∧ Below w.heap.size w w' := by
  have h3 : winB s = true := by have := (lyB_parts hl).2.1; simpa [nums] using this
  have HL : Hid (lyL ⟨3, o, s, t⟩ = [112, 111, 111, 108] ++ [32] ++ numL s) := line1 (w := kw 3) (by decide) h3
  obtain ⟨x1, hx1⟩ : ∃ x, x = ba (numL s) := ⟨_, rfl⟩
  have z1 : x1.size ≤ 6 := by rw [hx1, ba_size]; exact num_len s
  have s1 : ¬ 9223372036854775807 < 5 + x1.size := by omega
  have H1 := Lib.hid hx1
  clear hx1 h3 hl
  go_enter Tryd.func33, Tryd.ntmps33
  go_wp2_with fail
  refine (rnumber_any s _).mono ?_
  rintro e w1 ⟨rfl, hb⟩
  rw [← H1.out]
  have HB := Lib.hid (((Below.refl w.heap.size w).alloc (Nat.le_refl _) _).trans (hb.mono (by simp)))
  clear hb
  go_wp2_with fail
  go_ret
  refine ⟨ret_text ?_, HB.out⟩
  rw [HL.out, bl_add, H1.out, bl_ba]; rfl

set_option maxHeartbeats 4000000 in
set_option maxRecDepth 100000 in
theorem rline_dense (o s t : Int) (w : World) (hl : lyB ⟨4, o, s, t⟩ = true) :
    Calls Tryd.prog 33 #[.agg #[.int .i64 4, .int .i64 o, .int .i64 s, .int .i64 t]] w fun e w' => e = .returned (.string (ba (lyL ⟨4, o, s, t⟩))) ∧ Below w.heap.size w w' := by
  have h3 : winB o = true := by have := (lyB_parts hl).2.1; simpa [nums] using this
  have HL : Hid (lyL ⟨4, o, s, t⟩ = [100, 101, 110, 115, 101] ++ [32] ++ numL o) := line1 (w := kw 4) (by decide) h3
  obtain ⟨x1, hx1⟩ : ∃ x, x = ba (numL o) := ⟨_, rfl⟩
  have z1 : x1.size ≤ 6 := by rw [hx1, ba_size]; exact num_len o
  have s1 : ¬ 9223372036854775807 < 6 + x1.size := by omega
  have H1 := Lib.hid hx1
  clear hx1 h3 hl
  go_enter Tryd.func33, Tryd.ntmps33
  go_wp2_with fail
  refine (rnumber_any o _).mono ?_
  rintro e w1 ⟨rfl, hb⟩
  rw [← H1.out]
  have HB := Lib.hid (((Below.refl w.heap.size w).alloc (Nat.le_refl _) _).trans (hb.mono (by simp)))
  clear hb
  go_wp2_with fail
  go_ret
  refine ⟨ret_text ?_, HB.out⟩
  rw [HL.out, bl_add, H1.out, bl_ba]; rfl

set_option maxHeartbeats 4000000 in
set_option maxRecDepth 100000 in
theorem rline_square (o s t : Int) (w : World) :
    Calls Tryd.prog 33 #[.agg #[.int .i64 2, .int .i64 o, .int .i64 s, .int .i64 t]] w fun e w' => e = .returned (.string (ba (lyL ⟨2, o, s, t⟩))) ∧ Below w.heap.size w w' := by
  have HL : Hid (lyL ⟨2, o, s, t⟩ = [115, 113, 117, 97, 114, 101]) := line0 (w := kw 2) (by decide)
  go_enter Tryd.func33, Tryd.ntmps33
  go_wp2_with fail
  go_ret
  exact ⟨ret_text (by rw [HL.out]; rfl), (Below.refl _ w).alloc (Nat.le_refl _) _⟩
theorem rline_any (L : Ly) (w : World) (hl : lyB L = true) :
    Calls Tryd.prog 33 #[.agg #[.int .i64 L.k, .int .i64 L.o, .int .i64 L.s, .int .i64 L.t]] w fun e w' => e = .returned (.string (ba (lyL L))) ∧ Below w.heap.size w w' := by
  obtain ⟨k, o, s, t⟩ := L
  rcases kind_cases (lyB_parts hl).1 with h | h | h | h <;> (simp only at h; subst h)
  · exact rline_conv o s t w hl
  · exact rline_square o s t w
  · exact rline_pool o s t w hl
  · exact rline_dense o s t w hl

end Go.Proofs.YtmlflmlgjjjmfaaDoor
