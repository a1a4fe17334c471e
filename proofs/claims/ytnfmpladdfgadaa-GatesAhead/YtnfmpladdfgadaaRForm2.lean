/-
  What the document's own Form answers.
-/
import Derived.Test.YtnfmpladdfgadaaRForm
namespace Go.Proofs.Ytnfmpladdfgadaa
open Go.RowKit

theorem win3 (c h x : Int) : [c, h, x].all winB = (winB c && (winB h && winB x)) := by simp
set_option maxHeartbeats 4000000 in
set_option maxRecDepth 100000 in
theorem rform_any (c h x : Int) (A : Option Addr) (cA n : Nat) (ls : List Ly) (w : World) (hx : Rl w A ls) (ln : n = ls.length) (hn : n ≤ 1000) :
    Calls Try.prog 55 #[.agg #[.int .i64 c, .int .i64 h, .int .i64 x, .slice A n cA]] w fun e w' => e = .returned (.bool (formB ⟨c, h, x, ls⟩)) ∧ Below w.heap.size w w' := by
  have HX := Lib.hid hx; have LX := Lib.hid ln; clear hx ln
  have HN := Lib.hid (NB.new w c h x (.slice A n cA))
  have HB := Lib.hid ((Below.refl w.heap.size w).alloc (Nat.le_refl _) (.cells #[.int .i64 c, .int .i64 h, .int .i64 x, .slice A n cA] 26))
  have H3 := Lib.hid (win3 c h x)
  go_enter Try.func55, Try.ntmps55
  go_wp2_with fail
  refine (rwithin_any c _).mono ?_
  rintro e w1 ⟨rfl, rfl⟩
  cases h1 : winB c
  · have HW := Lib.hid (form_no1 (c := c) (h := h) (x := x) (ls := ls) (by rw [H3.out, h1]; rfl))
    clear h1
    go_wp2_with fail
    go_ret
    exact ⟨ret_bool HW.out.symm, HB.out⟩
  rw [h1] at H3
  clear h1
  go_wp2_with fail
  refine (rwithin_any h _).mono ?_
  rintro e w1 ⟨rfl, rfl⟩
  cases h1 : winB h
  · have HW := Lib.hid (form_no1 (c := c) (h := h) (x := x) (ls := ls) (by rw [H3.out, h1]; rfl))
    clear h1
    go_wp2_with fail
    go_ret
    exact ⟨ret_bool HW.out.symm, HB.out⟩
  rw [h1] at H3
  clear h1
  go_wp2_with fail
  refine (rwithin_any x _).mono ?_
  rintro e w1 ⟨rfl, rfl⟩
  cases h1 : winB x
  · have HW := Lib.hid (form_no1 (c := c) (h := h) (x := x) (ls := ls) (by rw [H3.out, h1]; rfl))
    clear h1
    go_wp2_with fail
    go_ret
    exact ⟨ret_bool HW.out.symm, HB.out⟩
  rw [h1] at H3
  have HV : Hid ([c, h, x].all winB = true) := by show _ = _; rw [H3.out]; rfl
  clear h1
  by_cases h8 : 8 < n
  · have HW := Lib.hid (form_no2 (c := c) (h := h) (x := x) (ls := ls) (by rw [← LX.out]; exact h8))
    have d8 : decide (8 < n) = true := by simpa using h8
    have e8 : decide ((8 : Int) < (n : Int)) = true := by simp; omega
    go_wp2_with fail
    go_ret
    exact ⟨ret_bool HW.out.symm, HB.out⟩
  · have d8 : decide (8 < n) = false := by simpa using h8
    have e8 : decide ((8 : Int) < (n : Int)) = false := by simp; omega
    obtain ⟨W, hW⟩ : ∃ W : World, W = w.alloc (.cells #[.int .i64 c, .int .i64 h, .int .i64 x, .slice A n cA] 26) := ⟨_, rfl⟩
    go_wp2_with fail
    rw [← hW]
    rw [← hW] at HB HN
    clear hW
    go_loopw [3] (fun i wr => ∃ k : Nat, k ≤ n ∧ i = .int .i64 k ∧ Hid ((ls.take k).all lyB = true) ∧ Hid (Below W.heap.size W wr)) (fun i _ => n - (intOf i).toNat)
    case atStart => exact ⟨0, Nat.zero_le _, rfl, rfl, Below.refl _ _⟩
    case round =>
      obtain ⟨k, hk, rfl, HA, HC⟩ := hrel
      obtain ⟨_, _, _, m3⟩ := (HN.out.below HC.out).cells
      have HD := Lib.hid (HB.out.trans (HC.out.mono HB.out.size))
      by_cases hlt : k < n
      · have hkl : k < ls.length := by rw [← LX.out]; exact hlt
        obtain ⟨b1, o1, rfl, l1, q⟩ := HX.out (by omega)
        obtain ⟨l, hle⟩ : ∃ l, l = ls.getD k Ly.z := ⟨_, rfl⟩
        have hq := (q k hkl).below HD.out l1
        rw [← hle] at hq
        have HL : Hid (ls[k]? = some l) := by show _ = _; rw [hle]; exact get_ly hkl
        obtain ⟨p0, p1, p2, p3⟩ := hq
        clear q hle
        go_wp2_with fail
        refine (rlayer_any l _).mono ?_
        rintro e w2 ⟨rfl, hb2⟩
        have HB2 := Lib.hid (HC.out.trans (hb2.mono HC.out.size))
        clear hb2 p0 p1 p2 p3 m3
        cases hl : lyB l
        · have HW := Lib.hid (form_no3 (c := c) (h := h) (x := x) (all_no HL.out hl))
          clear hl
          go_wp2_with fail
          go_ret
          exact ⟨ret_bool HW.out.symm, HB.out.trans (HB2.out.mono HB.out.size)⟩
        · have HT : Hid ((ls.take (k + 1)).all lyB = true) := by
            show _ = true
            rw [take_get HL.out, List.all_append, HA.out]; simp [hl]
          clear hl
          go_wp2_with fail
          go_roundw
          case rel => exact ⟨k + 1, by omega, by go_num, HT, HB2⟩
          case measure => simp [intOf]; omega
      · obtain rfl : k = n := by omega
        have hall := HA.out
        rw [LX.out, List.take_length] at hall
        have HW := Lib.hid (form_mk (n := ⟨c, h, x, ls⟩) HV.out (by show ls.length ≤ 8; rw [← LX.out]; omega) hall)
        clear hall
        go_wp2_with fail
        go_ret
        exact ⟨ret_bool HW.out.symm, HD.out⟩

end Go.Proofs.Ytnfmpladdfgadaa
