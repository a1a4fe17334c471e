/-
  What the document's own All answers; CheckTells: what fits of any network, and what is known of its layers, is the document's.
-/
import Derived.Test.YtnnebdpmmkjfnaaRefW
namespace Go.Proofs.Ytnnebdpmmkjfnaa
open Go.RowKit

theorem kn_len8 (N : Nt) : (knN N).length ≤ 8 := by
  obtain ⟨c, h, x, ls⟩ := N
  by_cases e : errN ⟨c, h, x, ls⟩ = 0
  · rw [knN_ok e, kn_len]; exact (ok_all e).2.2.2.2.2
  · rw [knN_no e]; simp
theorem kn_le (c h x : Int) (ls : List Ly) : (knN ⟨c, h, x, ls⟩).length ≤ ls.length := by
  by_cases e : errN ⟨c, h, x, ls⟩ = 0
  · rw [knN_ok e, kn_len]; exact Nat.le_refl _
  · rw [knN_no e]; simp
theorem tot_at (N : Nt) (k : Nat) : totW ((knN N).take (k + 1)) = totW ((knN N).take k) + (atN N k).w ∧ totP ((knN N).take (k + 1)) = totP ((knN N).take k) + (atN N k).p := by
  by_cases hk : k < (knN N).length
  · have g := kn_get? hk
    rw [take_get g, at_in (by omega) (by omega), Int.toNat_natCast]
    exact tot_snoc _ _
  · rw [at_out (by omega), kz_w, kz_p, List.take_of_length_le (by omega), List.take_of_length_le (by omega)]; simp
theorem tot_small (N : Nt) (k : Nat) : 0 ≤ totW ((knN N).take k) ∧ totW ((knN N).take k) ≤ 73728 ∧ 0 ≤ totP ((knN N).take k) ∧ totP ((knN N).take k) ≤ 10616832 := by
  have a := tot_bd ((knN N).take k) fun y hy => knN_all y (List.mem_of_mem_take hy)
  have b := kn_len8 N
  have d : ((knN N).take k).length ≤ 8 := by rw [List.length_take]; omega
  omega

set_option maxHeartbeats 4000000 in
set_option maxRecDepth 100000 in
theorem rall_of (c h x : Int) (A : Option Addr) (cA n : Nat) (ls : List Ly) (w : World) (hx : Rl w A ls) (ln : n = ls.length) (hn : n ≤ 1000) :
    Calls Try.prog 20 #[.agg #[.int .i64 c, .int .i64 h, .int .i64 x, .slice A n cA]] w fun e w' => e = .returned (.tuple #[.int .i64 (totW (knN ⟨c, h, x, ls⟩)), .int .i64 (totP (knN ⟨c, h, x, ls⟩))]) ∧ Below w.heap.size w w' := by
  have HX := Lib.hid hx; have LX := Lib.hid ln
  clear hx ln
  obtain ⟨W, hW⟩ : ∃ W, W = w.alloc (.cells #[.int .i64 c, .int .i64 h, .int .i64 x, .slice A n cA] 26) := ⟨_, rfl⟩
  have BW : Hid (Below w.heap.size w W) := by rw [hW]; exact (Below.refl _ w).alloc (Nat.le_refl _) _
  have NW : Hid (NB W w.heap.size c h x (.slice A n cA)) := by rw [hW]; exact NB.new w c h x _
  go_enter Try.func20, Try.ntmps20
  go_wp2_with fail
  rw [← hW]
  clear hW
  go_loopw [4, 5, 6] (fun a p i wr => ∃ k : Nat, k ≤ n ∧ k ≤ 9 ∧ a = .int .i64 (totW ((knN ⟨c, h, x, ls⟩).take k)) ∧ p = .int .i64 (totP ((knN ⟨c, h, x, ls⟩).take k)) ∧ i = .int .i64 k ∧ Hid (Below W.heap.size W wr)) (fun _ _ i _ => 9 - (intOf i).toNat)
  case atStart => exact ⟨0, Nat.zero_le _, Nat.zero_le _, rfl, rfl, rfl, Below.refl _ _⟩
  case round =>
    obtain ⟨k, hk, hk9, rfl, rfl, rfl, BC⟩ := hrel
    have N1 := Lib.hid (NW.out.below BC.out)
    obtain ⟨c0, c1, c2, c3⟩ := N1.out.cells
    have R1 := Lib.hid (HX.out.below (chain BW.out BC.out))
    by_cases hlt : k < n ∧ k ≤ 8
    · obtain ⟨k1, k2⟩ := hlt
      have d1 : decide (k < n) = true := decide_eq_true k1
      have d2 : decide ((k : Int) < (n : Int)) = true := decide_eq_true (by omega)
      have d3 : decide (k ≤ 8) = true := decide_eq_true k2
      have d4 : decide ((k : Int) ≤ 8) = true := decide_eq_true (by omega)
      have ta := tot_at ⟨c, h, x, ls⟩ k
      have ts := tot_small ⟨c, h, x, ls⟩ k
      obtain ⟨a, ha⟩ : ∃ a, a = totW ((knN ⟨c, h, x, ls⟩).take k) := ⟨_, rfl⟩
      obtain ⟨p, hp⟩ : ∃ p, p = totP ((knN ⟨c, h, x, ls⟩).take k) := ⟨_, rfl⟩
      obtain ⟨f, hf⟩ : ∃ f, f = (atN ⟨c, h, x, ls⟩ k).a := ⟨_, rfl⟩
      obtain ⟨e1, he1⟩ : ∃ e1, e1 = (atN ⟨c, h, x, ls⟩ k).w := ⟨_, rfl⟩
      obtain ⟨e2, he2⟩ : ∃ e2, e2 = (atN ⟨c, h, x, ls⟩ k).p := ⟨_, rfl⟩
      have bw := (at_ok ⟨c, h, x, ls⟩ k).w
      have bp := (at_ok ⟨c, h, x, ls⟩ k).p
      rw [← ha, ← he1, ← hp, ← he2] at ta
      rw [← ha, ← hp] at ts
      rw [← he1] at bw
      rw [← he2] at bp
      rw [← ha, ← hp]
      obtain ⟨ts1, ts2, ts3, ts4⟩ := ts
      obtain ⟨bw1, bw2⟩ := bw
      obtain ⟨bp1, bp2⟩ := bp
      have TA := Lib.hid ta
      have HF := Lib.hid hf; have HE1 := Lib.hid he1; have HE2 := Lib.hid he2
      clear ta ha hp hf he1 he2
      go_wp2_with fail
      refine (rweights_of c h x A cA n ls k _ R1.out LX.out hn).mono ?_
      rintro e w2 ⟨rfl, hb⟩
      rw [← HF.out, ← HE1.out]
      have BC2 := Lib.hid (chain BC.out hb)
      have N2 := Lib.hid (N1.out.below hb)
      have R2 := Lib.hid (R1.out.below hb)
      clear hb c0 c1 c2 c3
      obtain ⟨c0, c1, c2, c3⟩ := N2.out.cells
      go_wp2_with fail
      refine (rproducts_of c h x A cA n ls k _ R2.out LX.out hn).mono ?_
      rintro e w3 ⟨rfl, hb⟩
      rw [← HE2.out]
      have BC3 := Lib.hid (chain BC2.out hb)
      clear hb c0 c1 c2 c3
      go_wp2_with fail
      go_roundw
      case rel => exact ⟨k + 1, by omega, by omega, by rw [TA.out.1], by rw [TA.out.2], by go_num, BC3⟩
      case measure => simp [intOf]; omega
    · have et : (knN ⟨c, h, x, ls⟩).take k = knN ⟨c, h, x, ls⟩ := by
        have h1 := kn_len8 ⟨c, h, x, ls⟩
        have h2 := kn_le c h x ls
        rw [← LX.out] at h2
        exact List.take_of_length_le (by omega)
      rw [et]
      clear et
      by_cases k1 : k < n
      · have d1 : decide (k < n) = true := decide_eq_true k1
        have d2 : decide ((k : Int) < (n : Int)) = true := decide_eq_true (by omega)
        have d3 : decide (k ≤ 8) = false := decide_eq_false (by omega)
        have d4 : decide ((k : Int) ≤ 8) = false := decide_eq_false (by omega)
        go_wp2_with fail
        go_ret2
        exact ⟨rfl, chain BW.out BC.out⟩
      · have d1 : decide (k < n) = false := decide_eq_false k1
        have d2 : decide ((k : Int) < (n : Int)) = false := decide_eq_false (by omega)
        go_wp2_with fail
        go_ret2
        exact ⟨rfl, chain BW.out BC.out⟩

set_option maxHeartbeats 8000000 in
set_option maxRecDepth 100000 in
theorem law_tells5 (c h x : Int) (A : Option Addr) (cA n : Nat) (ls : List Ly) (i : Int) (w : World) (hx : Rl w A ls) (ln : n = ls.length) :
    Calls Try.prog 3 #[.agg #[.int .i64 c, .int .i64 h, .int .i64 x, .slice A n cA], .int .i64 i] w fun e w' => e = .returned (.bool true) ∧ Below w.heap.size w w' := by
  have HX := Lib.hid hx; have LX := Lib.hid ln
  clear hx ln
  go_enter Try.func3, Try.ntmps3
  go_wp2_with fail
  refine (head_any _).mono ?_
  rintro e w1 ⟨rfl, hb⟩
  have B1 := Lib.hid (chain ((Below.refl w.heap.size w).alloc (Nat.le_refl _) _) hb)
  have hN := (NB.new w c h x (.slice A n cA)).below hb
  have N1 := Lib.hid hN
  obtain ⟨c0, c1, c2, c3⟩ := hN.cells
  clear hb hN
  by_cases hg : 60 < n
  · have d : decide (60 < (n : Int)) = true := by simp; omega
    go_wp2_with fail
    refine (great_any c h x A cA n _ true d).mono ?_
    rintro e w2 ⟨rfl, hb⟩
    have B2 := Lib.hid (chain B1.out hb)
    clear hb
    go_wp2_with fail
    go_ret
    exact ⟨rfl, B2.out⟩
  have d : decide (60 < (n : Int)) = false := by simp; omega
  have hn : n ≤ 60 := by omega
  have hn1 : n ≤ 1000 := by omega
  go_wp2_with fail
  refine (great_any c h x A cA n _ false d).mono ?_
  rintro e w2 ⟨rfl, hb⟩
  have B2 := Lib.hid (chain B1.out hb)
  have N2 := Lib.hid (N1.out.below hb)
  clear hb B1 N1 c0 c1 c2 c3 hg d
  obtain ⟨c0, c1, c2, c3⟩ := N2.out.cells
  obtain ⟨er, her⟩ : ∃ er, errN ⟨c, h, x, ls⟩ = er := ⟨_, rfl⟩
  obtain ⟨ss, hss⟩ : ∃ ss, shN ⟨c, h, x, ls⟩ = ss := ⟨_, rfl⟩
  obtain ⟨f1, hf1⟩ : ∃ a, (atN ⟨c, h, x, ls⟩ i).a = a := ⟨_, rfl⟩
  obtain ⟨f2, hf2⟩ : ∃ a, (atN ⟨c, h, x, ls⟩ i).w = a := ⟨_, rfl⟩
  obtain ⟨f3, hf3⟩ : ∃ a, (atN ⟨c, h, x, ls⟩ i).p = a := ⟨_, rfl⟩
  obtain ⟨t1, ht1⟩ : ∃ a, totW (knN ⟨c, h, x, ls⟩) = a := ⟨_, rfl⟩
  obtain ⟨t2, ht2⟩ : ∃ a, totP (knN ⟨c, h, x, ls⟩) = a := ⟨_, rfl⟩
  obtain ⟨rb, hrb⟩ : ∃ r, (errN ⟨c, h, x, ls⟩ == 0) = r := ⟨_, rfl⟩
  have hsl : ss.length ≤ 1000 := by
    rw [← hss]
    by_cases e : errN ⟨c, h, x, ls⟩ = 0
    · rw [shN_ok e, sh_len]; have := LX.out; omega
    · rw [shN_no e]; simp
  have K1 : Hid (∀ (w : World), Rl w A ls → Calls Try.prog 16 #[.agg #[.int .i64 c, .int .i64 h, .int .i64 x, .slice A n cA]] w fun e w' => ∃ (A : Option Addr) (k n : Nat), e = .returned (.tuple #[.slice A n k, .int .i64 er]) ∧ n = ss.length ∧ Rs w' A ss ∧ Below w.heap.size w w') := fun w hx => by
    refine (rshapes_any c h x A cA n ls w hx LX.out hn1).mono ?_
    rintro e w' ⟨A1, k1, n1, he, hn, hR, hb, _⟩
    rw [her] at he
    rw [hss] at hn hR
    exact ⟨A1, k1, n1, he, hn, hR, hb⟩
  have K2 : Hid (∀ (w : World), Rl w A ls → Calls Try.prog 18 #[.agg #[.int .i64 c, .int .i64 h, .int .i64 x, .slice A n cA], .int .i64 i] w fun e w' => e = .returned (.tuple #[.int .i64 f1, .int .i64 f2]) ∧ Below w.heap.size w w') := fun w hx => by
    rw [← hf1, ← hf2]; exact rweights_of c h x A cA n ls i w hx LX.out hn1
  have K3 : Hid (∀ (w : World), Rl w A ls → Calls Try.prog 20 #[.agg #[.int .i64 c, .int .i64 h, .int .i64 x, .slice A n cA]] w fun e w' => e = .returned (.tuple #[.int .i64 t1, .int .i64 t2]) ∧ Below w.heap.size w w') := fun w hx => by
    rw [← ht1, ← ht2]; exact rall_of c h x A cA n ls w hx LX.out hn1
  have K4 : Hid (∀ (w : World), Rl w A ls → Calls Try.prog 23 #[.agg #[.int .i64 c, .int .i64 h, .int .i64 x, .slice A n cA]] w fun e w' => e = .returned (.bool rb) ∧ Below w.heap.size w w') := fun w hx => by
    rw [← hrb]; exact rright_of c h x A cA n ls w hx LX.out hn1
  have K5 : Hid (∀ (w : World), Rl w A ls → Calls Try.prog 25 #[.agg #[.int .i64 c, .int .i64 h, .int .i64 x, .slice A n cA], .int .i64 i] w fun e w' => e = .returned (.int .i64 f3) ∧ Below w.heap.size w w') := fun w hx => by
    rw [← hf3]; exact rproducts_of c h x A cA n ls i w hx LX.out hn1
  have HER := Lib.hid her; have HSS := Lib.hid hss; have HF1 := Lib.hid hf1; have HF2 := Lib.hid hf2; have HF3 := Lib.hid hf3; have HT1 := Lib.hid ht1; have HT2 := Lib.hid ht2; have HRB := Lib.hid hrb
  clear her hss hf1 hf2 hf3 ht1 ht2 hrb
  go_wp2_with fail
  refine (shapes_is c h x A cA n ls er ss HER.out HSS.out _ (HX.out.below B2.out) LX.out hn1).mono ?_
  rintro e w3 ⟨A1, k1, n1, rfl, hn2, hR, hb, hd1, hd2⟩
  have B3 := Lib.hid (chain B2.out hb)
  have N3 := Lib.hid (N2.out.below hb)
  have R3 := Lib.hid hR
  have HL3 := Lib.hid hn2
  clear hR hd1 hd2 hn2
  clear hb B2 N2 c0 c1 c2 c3
  obtain ⟨c0, c1, c2, c3⟩ := N3.out.cells
  go_wp2_with fail
  refine (K1.out _ (HX.out.below B3.out)).mono ?_
  rintro e w4 ⟨A2, k2, n2, rfl, hn3, hR, hb⟩
  have B4 := Lib.hid (chain B3.out hb)
  have N4 := Lib.hid (N3.out.below hb)
  have R4 := Lib.hid (R3.out.below hb)
  have Q4 := Lib.hid hR
  clear hR R3
  obtain rfl : n2 = n1 := by have := HL3.out; omega
  clear hn3
  clear hb B3 N3 c0 c1 c2 c3
  obtain ⟨c0, c1, c2, c3⟩ := N4.out.cells
  go_wp2_with fail
  refine (weights_to c h x A cA n ls i f1 f2 HF1.out HF2.out _ (HX.out.below B4.out) LX.out hn1).mono ?_
  rintro e w5 ⟨rfl, hb⟩
  have B5 := Lib.hid (chain B4.out hb)
  have N5 := Lib.hid (N4.out.below hb)
  have R5 := Lib.hid (R4.out.below hb)
  have Q5 := Lib.hid (Q4.out.below hb)
  clear R4 Q4
  clear hb B4 N4 c0 c1 c2 c3
  obtain ⟨c0, c1, c2, c3⟩ := N5.out.cells
  go_wp2_with fail
  refine (K2.out _ (HX.out.below B5.out)).mono ?_
  rintro e w6 ⟨rfl, hb⟩
  have B6 := Lib.hid (chain B5.out hb)
  have N6 := Lib.hid (N5.out.below hb)
  have R6 := Lib.hid (R5.out.below hb)
  have Q6 := Lib.hid (Q5.out.below hb)
  clear R5 Q5
  clear hb B5 N5 c0 c1 c2 c3
  obtain ⟨c0, c1, c2, c3⟩ := N6.out.cells
  go_wp2_with fail
  refine (all_to c h x A cA n ls t1 t2 HT1.out HT2.out _ (HX.out.below B6.out) LX.out hn1).mono ?_
  rintro e w7 ⟨rfl, hb⟩
  have B7 := Lib.hid (chain B6.out hb)
  have N7 := Lib.hid (N6.out.below hb)
  have R7 := Lib.hid (R6.out.below hb)
  have Q7 := Lib.hid (Q6.out.below hb)
  clear R6 Q6
  clear hb B6 N6 c0 c1 c2 c3
  obtain ⟨c0, c1, c2, c3⟩ := N7.out.cells
  go_wp2_with fail
  refine (K3.out _ (HX.out.below B7.out)).mono ?_
  rintro e w8 ⟨rfl, hb⟩
  have B8 := Lib.hid (chain B7.out hb)
  have N8 := Lib.hid (N7.out.below hb)
  have R8 := Lib.hid (R7.out.below hb)
  have Q8 := Lib.hid (Q7.out.below hb)
  clear R7 Q7
  clear hb B7 N7 c0 c1 c2 c3
  obtain ⟨c0, c1, c2, c3⟩ := N8.out.cells
  go_wp2_with fail
  have HLN := HL3
  have hsl2 : n2 ≤ 1000 := by rw [HLN.out]; exact hsl
  clear hsl
  have HC : Hid (Below w.heap.size w w8.drew) := B8.out.drew
  have ND : Hid (NB w8.drew w.heap.size c h x (.slice A n cA)) := N8.out
  have RD : Hid (Rs w8.drew A1 ss) := R8.out.below (below_drew w8)
  have QD : Hid (Rs w8.drew A2 ss) := Q8.out.below (below_drew w8)
  have tok1 : True := trivial
  go_region_held3 (fun w' => w'.cell? ⟨w.heap.size, 0, none⟩ = some (.int .i64 c) ∧ w'.cell? ⟨w.heap.size, 1, none⟩ = some (.int .i64 h) ∧ w'.cell? ⟨w.heap.size, 2, none⟩ = some (.int .i64 x) ∧ w'.cell? ⟨w.heap.size, 3, none⟩ = some (.slice A n cA))
    (first | exact ⟨q0, q1, q2, q3⟩ | go_keep)
    (first
      | ((have _t := tok1; clear tok1; go_at_call 21; (with_reducible refine (same_any ss A1 A2 k1 k2 n2 _ RD.out QD.out HLN.out hsl2).mono ?_); rintro e w9 ⟨rfl, hb⟩
          have HC9 := Lib.hid (chain HC.out hb)
          have ND9 := Lib.hid (ND.out.below hb)
          clear HC ND hb
          have HC := HC9
          have ND := ND9
          clear HC9 ND9
          have tok2 : True := trivial
          obtain ⟨q0, q1, q2, q3⟩ := ND.out.cells))
      | ((have _t := tok2; clear tok2; go_at_call 22; (with_reducible refine (okay_to c h x A cA n ls rb HRB.out _ (HX.out.below HC.out) LX.out hn1).mono ?_); rintro e w9 ⟨rfl, hb⟩
          have HC9 := Lib.hid (chain HC.out hb)
          have ND9 := Lib.hid (ND.out.below hb)
          clear HC ND hb
          have HC := HC9
          have ND := ND9
          clear HC9 ND9
          have tok3 : True := trivial
          obtain ⟨q0, q1, q2, q3⟩ := ND.out.cells))
      | ((have _t := tok3; clear tok3; go_at_call 23; (with_reducible refine (K4.out _ (HX.out.below HC.out)).mono ?_); rintro e w9 ⟨rfl, hb⟩
          have HC9 := Lib.hid (chain HC.out hb)
          have ND9 := Lib.hid (ND.out.below hb)
          clear HC ND hb
          have HC := HC9
          have ND := ND9
          clear HC9 ND9
          have tok4 : True := trivial
          obtain ⟨q0, q1, q2, q3⟩ := ND.out.cells))
      | ((have _t := tok4; clear tok4; go_at_call 24; (with_reducible refine (products_to c h x A cA n ls i f3 HF3.out _ (HX.out.below HC.out) LX.out hn1).mono ?_); rintro e w9 ⟨rfl, hb⟩
          have HC9 := Lib.hid (chain HC.out hb)
          have ND9 := Lib.hid (ND.out.below hb)
          clear HC ND hb
          have HC := HC9
          have ND := ND9
          clear HC9 ND9
          have tok5 : True := trivial
          obtain ⟨q0, q1, q2, q3⟩ := ND.out.cells))
      | ((have _t := tok5; clear tok5; go_at_call 25; (with_reducible refine (K5.out _ (HX.out.below HC.out)).mono ?_); rintro e w9 ⟨rfl, hb⟩
          have HC9 := Lib.hid (chain HC.out hb)
          have ND9 := Lib.hid (ND.out.below hb)
          clear HC ND hb
          have HC := HC9
          have ND := ND9
          clear HC9 ND9
          have tok6 : True := trivial
          obtain ⟨q0, q1, q2, q3⟩ := ND.out.cells))
      | fail)
  go_wp2_with fail
  go_ret
  exact ⟨rfl, HC.out⟩

end Go.Proofs.Ytnnebdpmmkjfnaa
