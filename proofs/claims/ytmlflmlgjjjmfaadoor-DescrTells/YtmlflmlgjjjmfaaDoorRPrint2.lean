/-
  What the document's own Print answers of a network: the same as package descr.
-/
import Derived.Test.YtmlflmlgjjjmfaaDoorRPrint
namespace Go.Proofs.YtmlflmlgjjjmfaaDoor
open Go.RowKit

theorem lay_bound (n : Nt) (k : Nat) (hk : n.ls.length ≤ 8) : (layL 10 (inL n :: (n.ls.take k).map lyL)).length ≤ 400 := by
  have h1 := bulk_net ⟨n.c, n.h, n.x, n.ls.take k⟩
  have h2 : (n.ls.take k).length ≤ 8 := by rw [List.length_take]; omega
  rw [bulk_lay]
  have h3 : bulk (inL n :: (n.ls.take k).map lyL) = bulk (linesN ⟨n.c, n.h, n.x, n.ls.take k⟩) := rfl
  simp only at h1
  omega

set_option maxHeartbeats 8000000 in
set_option maxRecDepth 100000 in
theorem rprint_any (c h x : Int) (A : Option Addr) (cA n : Nat) (ls : List Ly) (w : World) (hx : Rl w A ls) (ln : n = ls.length) (hn : n ≤ 1000) :
    Calls Tryd.prog 16 #[.agg #[.int .i64 c, .int .i64 h, .int .i64 x, .slice A n cA]] w fun e w' => e = .returned (.string (ba (printL ⟨c, h, x, ls⟩))) ∧ Below w.heap.size w w' := by
  have HX := Lib.hid hx; have LX := Lib.hid ln; clear hx ln
  go_enter Tryd.func16, Tryd.ntmps16
  go_wp2_with fail
  refine (rform_any c h x A cA n ls _ (HX.out.below ((Below.refl _ w).alloc (Nat.le_refl _) _)) LX.out hn).mono ?_
  rintro e W ⟨rfl, hb⟩
  have HB := Lib.hid (((Below.refl w.heap.size w).alloc (Nat.le_refl _) _).trans (hb.mono (by simp)))
  have HN := Lib.hid (((NB.new w c h x (.slice A n cA))).below hb)
  clear hb
  cases hf : formB ⟨c, h, x, ls⟩
  · have HP : Hid (printL ⟨c, h, x, ls⟩ = []) := by show _ = _; unfold printL; rw [hf]; rfl
    clear hf
    go_wp2_with fail
    go_ret
    exact ⟨by rw [HP.out]; rfl, HB.out⟩
  · have HF := Lib.hid hf
    have HP : Hid (printL ⟨c, h, x, ls⟩ = layL 10 (linesN ⟨c, h, x, ls⟩)) := by show _ = _; unfold printL; rw [hf]; rfl
    have h8 : ls.length ≤ 8 := (form_parts hf).2.1
    have H8 := Lib.hid h8
    have hn8 : n ≤ 8 := by rw [LX.out]; exact h8
    have HI : Hid (inL ⟨c, h, x, ls⟩ = [105, 110] ++ [32] ++ numL c ++ [32] ++ numL h ++ [32] ++ numL x) := line3 (w := inW) (by decide) (form_parts hf).1
    obtain ⟨x1, hx1⟩ : ∃ y, y = ba (numL c) := ⟨_, rfl⟩
    obtain ⟨x2, hx2⟩ : ∃ y, y = ba (numL h) := ⟨_, rfl⟩
    obtain ⟨x3, hx3⟩ : ∃ y, y = ba (numL x) := ⟨_, rfl⟩
    have z1 : x1.size ≤ 6 := by rw [hx1, ba_size]; exact num_len c
    have z2 : x2.size ≤ 6 := by rw [hx2, ba_size]; exact num_len h
    have z3 : x3.size ≤ 6 := by rw [hx3, ba_size]; exact num_len x
    have H1 := Lib.hid hx1; have H2 := Lib.hid hx2; have H3 := Lib.hid hx3
    clear hx1 hx2 hx3 hf h8
    obtain ⟨a0, a1, a2, a3⟩ := HN.out.cells
    have hWl := HN.out.lt
    go_wp2_with fail
    have HC0 : Hid (Below W.heap.size W W.drew) := below_drew W
    have tok1 : True := trivial
    have s1 : ¬ 9223372036854775807 < 3 + x1.size := by omega
    have s2 : ¬ 9223372036854775807 < 3 + x1.size + 1 := by omega
    have s3 : ¬ 9223372036854775807 < 3 + x1.size + 1 + x2.size := by omega
    have s4 : ¬ 9223372036854775807 < 3 + x1.size + 1 + x2.size + 1 := by omega
    have s5 : ¬ 9223372036854775807 < 3 + x1.size + 1 + x2.size + 1 + x3.size := by omega
    have s6 : ¬ 9223372036854775807 < 3 + x1.size + 1 + x2.size + 1 + x3.size + 1 := by omega
    go_region_held3 (fun w' => w'.cell? ⟨w.heap.size, 0, none⟩ = some (.int .i64 c) ∧ w'.cell? ⟨w.heap.size, 1, none⟩ = some (.int .i64 h) ∧ w'.cell? ⟨w.heap.size, 2, none⟩ = some (.int .i64 x))
      (first | exact ⟨q0, q1, q2⟩ | go_keep)
      (first
        | ((have _t := tok1; clear tok1; go_at_call 32; (with_reducible refine (rnumber_any c _).mono ?_); rintro e v1 ⟨rfl, hb1⟩
            rw [← H1.out]
            have HC1 := Lib.hid (HC0.out.trans (hb1.mono HC0.out.size))
            have q0 := (HC1.out.cell (p := ⟨w.heap.size, 0, none⟩) hWl).trans a0
            have q1 := (HC1.out.cell (p := ⟨w.heap.size, 1, none⟩) hWl).trans a1
            have q2 := (HC1.out.cell (p := ⟨w.heap.size, 2, none⟩) hWl).trans a2
            have tok2 : True := trivial
            clear hb1))
        | ((have _t := tok2; clear tok2; go_at_call 32; (with_reducible refine (rnumber_any h _).mono ?_); rintro e v2 ⟨rfl, hb2⟩
            rw [← H2.out]
            have HC2 := Lib.hid (HC1.out.trans (hb2.mono HC1.out.size))
            have q0 := (HC2.out.cell (p := ⟨w.heap.size, 0, none⟩) hWl).trans a0
            have q1 := (HC2.out.cell (p := ⟨w.heap.size, 1, none⟩) hWl).trans a1
            have q2 := (HC2.out.cell (p := ⟨w.heap.size, 2, none⟩) hWl).trans a2
            have tok3 : True := trivial
            clear hb2))
        | ((have _t := tok3; clear tok3; go_at_call 32; (with_reducible refine (rnumber_any x _).mono ?_); rintro e v3 ⟨rfl, hb3⟩
            rw [← H3.out]
            have HC3 := Lib.hid (HC2.out.trans (hb3.mono HC2.out.size))
            have q0 := (HC3.out.cell (p := ⟨w.heap.size, 0, none⟩) hWl).trans a0
            have q1 := (HC3.out.cell (p := ⟨w.heap.size, 1, none⟩) hWl).trans a1
            have q2 := (HC3.out.cell (p := ⟨w.heap.size, 2, none⟩) hWl).trans a2
            have tok4 : True := trivial
            clear hb3))
        | fail)
    go_wp2_with fail
    have HV3 := Lib.hid (HC3.out)
    go_loopw [3, 4] (fun v i wr => ∃ (k : Nat) (t : ByteArray), k ≤ n ∧ i = .int .i64 k ∧ v = .string t ∧ Hid (bl t = layL 10 (inL ⟨c, h, x, ls⟩ :: (ls.take k).map lyL)) ∧ Hid (Below W.heap.size W wr)) (fun _ i _ => n - (intOf i).toNat)
    case atStart =>
      refine ⟨0, _, Nat.zero_le _, rfl, rfl, ?_, HV3.out⟩
      show bl _ = _
      rw [bl_add, bl_add, bl_add, bl_add, bl_add, bl_add, H1.out, H2.out, H3.out, bl_ba, bl_ba, bl_ba]
      show _ = layL 10 [inL ⟨c, h, x, ls⟩]
      rw [layL_one, HI.out]; rfl
    case round =>
      obtain ⟨k, t, hk, rfl, rfl, HT, HC⟩ := hrel
      obtain ⟨_, _, _, m3⟩ := (HN.out.below HC.out).cells
      have HD := Lib.hid (HB.out.trans (HC.out.mono HB.out.size))
      have hts : t.size ≤ 400 := by rw [size_bl, HT.out]; exact lay_bound ⟨c, h, x, ls⟩ k H8.out
      clear a0 a1 a2 a3 q0 q1 q2
      by_cases hlt : k < n
      · have hkl : k < ls.length := by rw [← LX.out]; exact hlt
        obtain ⟨b1, o1, rfl, l1, q⟩ := HX.out (by omega)
        obtain ⟨l, hle⟩ : ∃ l, l = ls.getD k Ly.z := ⟨_, rfl⟩
        have hq := (q k hkl).below HD.out l1
        rw [← hle] at hq
        have HL : Hid (ls[k]? = some l) := by show _ = _; rw [hle]; exact get_ly hkl
        have hly : lyB l = true := List.all_eq_true.1 (form_parts HF.out).2.2 l (List.mem_of_getElem? HL.out)
        have HLy := Lib.hid hly
        obtain ⟨p0, p1, p2, p3⟩ := hq
        clear q hle hly
        go_wp2_with fail
        refine (rline_any l _ HLy.out).mono ?_
        rintro e w2 ⟨rfl, hb2⟩
        obtain ⟨u, hu⟩ : ∃ u, u = ba (lyL l) := ⟨_, rfl⟩
        rw [← hu]
        have hus : u.size ≤ 40 := by rw [hu, ba_size]; exact ly_len l
        have HU := Lib.hid hu
        have HB2 := Lib.hid (HC.out.trans (hb2.mono HC.out.size))
        have y1 : ¬ 9223372036854775807 < t.size + u.size := by omega
        have y2 : ¬ 9223372036854775807 < t.size + u.size + 1 := by omega
        clear hb2 p0 p1 p2 p3 m3 hu
        go_wp2_with fail
        go_roundw
        case rel =>
          refine ⟨k + 1, _, by omega, by go_num, rfl, ?_, HB2⟩
          show bl _ = _
          rw [bl_add, bl_add, HT.out, HU.out, bl_ba, take_get HL.out, List.map_append, ← List.cons_append, layL_append]
          show _ = _ ++ layL 10 [lyL l]
          rw [layL_one, List.append_assoc]; rfl
        case measure => simp [intOf]; omega
      · obtain rfl : k = n := by omega
        have hT := HT.out
        have hk1 : ls.take k = ls := by rw [LX.out]; exact List.take_length
        rw [hk1] at hT
        have HT2 : Hid (bl t = printL ⟨c, h, x, ls⟩) := by show _ = _; rw [HP.out]; exact hT
        clear hT hk1
        go_wp2_with fail
        go_ret
        exact ⟨ret_text HT2.out, HD.out⟩

end Go.Proofs.YtmlflmlgjjjmfaaDoor
