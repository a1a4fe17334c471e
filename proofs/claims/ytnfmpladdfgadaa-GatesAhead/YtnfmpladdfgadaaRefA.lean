/-
  What the document's own All answers.
-/
import Derived.Test.YtnfmpladdfgadaaRefW
namespace Go.Proofs.Ytnfmpladdfgadaa
open Go.RowKit

theorem kn_len8 (N : Nt) : (knN N).length ≤ 8 := by
  obtain ⟨c, h, x, ls⟩ := N
  by_cases e : errN ⟨c, h, x, ls⟩ = 0
  · rw [knN_ok e, kn_len]; exact (ok_all e).2.2.2.2.2
  · rw [knN_no e]; simp
theorem kn_le (c h x : Int) (ls : List Ly) : (knN ⟨c, h, x, ls⟩).length ≤ ls.length := by
  by_cases e : errN ⟨c, h, x, ls⟩ = 0
  · rw [knN_ok e, kn_len]; exact Nat.le_refl _
  · rw [knN_no e]; simp
theorem tot_at (N : Nt) (k : Nat) : totW ((knN N).take (k + 1)) = totW ((knN N).take k) + (atN N k).w ∧ totP ((knN N).take (k + 1)) = totP ((knN N).take k) + (atN N k).p := by
  by_cases hk : k < (knN N).length
  · have g := kn_get? hk
    rw [take_get g, at_in (by omega) (by omega), Int.toNat_natCast]
    exact tot_snoc _ _
  · rw [at_out (by omega), kz_w, kz_p, List.take_of_length_le (by omega), List.take_of_length_le (by omega)]; simp
theorem tot_small (N : Nt) (k : Nat) : 0 ≤ totW ((knN N).take k) ∧ totW ((knN N).take k) ≤ 73728 ∧ 0 ≤ totP ((knN N).take k) ∧ totP ((knN N).take k) ≤ 10616832 := by
  have a := tot_bd ((knN N).take k) fun y hy => knN_all y (List.mem_of_mem_take hy)
  have b := kn_len8 N
  have d : ((knN N).take k).length ≤ 8 := by rw [List.length_take]; omega
  omega

set_option maxHeartbeats 4000000 in
set_option maxRecDepth 100000 in
theorem rall_of (c h x : Int) (A : Option Addr) (cA n : Nat) (ls : List Ly) (w : World) (hx : Rl w A ls) (ln : n = ls.length) (hn : n ≤ 1000) :
    Calls Try.prog 19 #[.agg #[.int .i64 c, .int .i64 h, .int .i64 x, .slice A n cA]] w fun e w' => e = .returned (.tuple #[.int .i64 (totW (knN ⟨c, h, x, ls⟩)), .int .i64 (totP (knN ⟨c, h, x, ls⟩))]) ∧ Below w.heap.size w w' := by
  have HX := Lib.hid hx; have LX := Lib.hid ln
  clear hx ln
  obtain ⟨W, hW⟩ : ∃ W, W = w.alloc (.cells #[.int .i64 c, .int .i64 h, .int .i64 x, .slice A n cA] 26) := ⟨_, rfl⟩
  have BW : Hid (Below w.heap.size w W) := by rw [hW]; exact (Below.refl _ w).alloc (Nat.le_refl _) _
  have NW : Hid (NB W w.heap.size c h x (.slice A n cA)) := by rw [hW]; exact NB.new w c h x _
  go_enter Try.func19, Try.ntmps19
  go_wp2_with fail
  rw [← hW]
  clear hW
  go_loopw [4, 5, 6] (fun a p i wr => ∃ k : Nat, k ≤ n ∧ k ≤ 9 ∧ a = .int .i64 (totW ((knN ⟨c, h, x, ls⟩).take k)) ∧ p = .int .i64 (totP ((knN ⟨c, h, x, ls⟩).take k)) ∧ i = .int .i64 k ∧ Hid (Below W.heap.size W wr)) (fun _ _ i _ => 9 - (intOf i).toNat)
  case atStart => exact ⟨0, Nat.zero_le _, Nat.zero_le _, rfl, rfl, rfl, Below.refl _ _⟩
  case round =>
    obtain ⟨k, hk, hk9, rfl, rfl, rfl, BC⟩ := hrel
    have N1 := Lib.hid (NW.out.below BC.out)
    obtain ⟨c0, c1, c2, c3⟩ := N1.out.cells
    have R1 := Lib.hid (HX.out.below (chain BW.out BC.out))
    by_cases hlt : k < n ∧ k ≤ 8
    · obtain ⟨k1, k2⟩ := hlt
      have d1 : decide (k < n) = true := decide_eq_true k1
      have d2 : decide ((k : Int) < (n : Int)) = true := decide_eq_true (by omega)
      have d3 : decide (k ≤ 8) = true := decide_eq_true k2
      have d4 : decide ((k : Int) ≤ 8) = true := decide_eq_true (by omega)
      have ta := tot_at ⟨c, h, x, ls⟩ k
      have ts := tot_small ⟨c, h, x, ls⟩ k
      obtain ⟨a, ha⟩ : ∃ a, a = totW ((knN ⟨c, h, x, ls⟩).take k) := ⟨_, rfl⟩
      obtain ⟨p, hp⟩ : ∃ p, p = totP ((knN ⟨c, h, x, ls⟩).take k) := ⟨_, rfl⟩
      obtain ⟨f, hf⟩ : ∃ f, f = (atN ⟨c, h, x, ls⟩ k).a := ⟨_, rfl⟩
      obtain ⟨e1, he1⟩ : ∃ e1, e1 = (atN ⟨c, h, x, ls⟩ k).w := ⟨_, rfl⟩
      obtain ⟨e2, he2⟩ : ∃ e2, e2 = (atN ⟨c, h, x, ls⟩ k).p := ⟨_, rfl⟩
      have bw := (at_ok ⟨c, h, x, ls⟩ k).w
      have bp := (at_ok ⟨c, h, x, ls⟩ k).p
      rw [← ha, ← he1, ← hp, ← he2] at ta
      rw [← ha, ← hp] at ts
      rw [← he1] at bw
      rw [← he2] at bp
      rw [← ha, ← hp]
      obtain ⟨ts1, ts2, ts3, ts4⟩ := ts
      obtain ⟨bw1, bw2⟩ := bw
      obtain ⟨bp1, bp2⟩ := bp
      have TA := Lib.hid ta
      have HF := Lib.hid hf; have HE1 := Lib.hid he1; have HE2 := Lib.hid he2
      clear ta ha hp hf he1 he2
      go_wp2_with fail
      refine (rweights_of c h x A cA n ls k _ R1.out LX.out hn).mono ?_
      rintro e w2 ⟨rfl, hb⟩
      rw [← HF.out, ← HE1.out]
      have BC2 := Lib.hid (chain BC.out hb)
      have N2 := Lib.hid (N1.out.below hb)
      have R2 := Lib.hid (R1.out.below hb)
      clear hb c0 c1 c2 c3
      obtain ⟨c0, c1, c2, c3⟩ := N2.out.cells
      go_wp2_with fail
      refine (rproducts_of c h x A cA n ls k _ R2.out LX.out hn).mono ?_
      rintro e w3 ⟨rfl, hb⟩
      rw [← HE2.out]
      have BC3 := Lib.hid (chain BC2.out hb)
      clear hb c0 c1 c2 c3
      go_wp2_with fail
      go_roundw
      case rel => exact ⟨k + 1, by omega, by omega, by rw [TA.out.1], by rw [TA.out.2], by go_num, BC3⟩
      case measure => simp [intOf]; omega
    · have et : (knN ⟨c, h, x, ls⟩).take k = knN ⟨c, h, x, ls⟩ := by
        have h1 := kn_len8 ⟨c, h, x, ls⟩
        have h2 := kn_le c h x ls
        rw [← LX.out] at h2
        exact List.take_of_length_le (by omega)
      rw [et]
      clear et
      by_cases k1 : k < n
      · have d1 : decide (k < n) = true := decide_eq_true k1
        have d2 : decide ((k : Int) < (n : Int)) = true := decide_eq_true (by omega)
        have d3 : decide (k ≤ 8) = false := decide_eq_false (by omega)
        have d4 : decide ((k : Int) ≤ 8) = false := decide_eq_false (by omega)
        go_wp2_with fail
        go_ret2
        exact ⟨rfl, chain BW.out BC.out⟩
      · have d1 : decide (k < n) = false := decide_eq_false k1
        have d2 : decide ((k : Int) < (n : Int)) = false := decide_eq_false (by omega)
        go_wp2_with fail
        go_ret2
        exact ⟨rfl, chain BW.out BC.out⟩

end Go.Proofs.Ytnfmpladdfgadaa
