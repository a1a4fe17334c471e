/-
  DescrWrong: a line that is wrong by itself is told as the first that is wrong, wherever it stands in the place of another one.
-/
import Derived.Test.YtmlflmlgjjjmfaaDoorAppend
namespace Go.Proofs.YtmlflmlgjjjmfaaDoor
open Go.RowKit

set_option maxHeartbeats 8000000 in
set_option maxRecDepth 100000 in
theorem law_wrong (c h x : Int) (A : Option Addr) (cA n : Nat) (ls : List Ly) (u8 : UInt8) (s : ByteArray) (w : World) (hx : Rl w A ls) (ln : n = ls.length) (hsz : s.size ≤ 1048576) (hL : Laid w) :
    Calls Tryd.prog 8 #[.agg #[.int .i64 c, .int .i64 h, .int .i64 x, .slice A n cA], .int .u8 (u8.toNat : Int), .string s] w fun e w' => e = .returned (.bool true) ∧ Below w.heap.size w w' := by
  obtain ⟨q, hqe⟩ : ∃ q : Nat, q = u8.toNat := ⟨_, rfl⟩
  have hq : q ≤ 255 := by have := u8.toNat_lt; omega
  rw [← hqe]
  have S0 := Lib.hid ((Ctx.refl hL).alloc (.cells #[.int .i64 c, .int .i64 h, .int .i64 x, .slice A n cA] 26))
  have N0 := Lib.hid (Nn.new (N := ⟨c, h, x, ls⟩) (n := n) (k := cA) ln hx)
  have LX := Lib.hid ln
  clear hx ln hL hqe
  go_enter Tryd.func8, Tryd.ntmps8
  go_wp2_with fail
  refine (head_any _ S0.out.2).mono ?_
  rintro e w1 ⟨rfl, hb⟩
  have S1 := Lib.hid (S0.out.below hb)
  have N1 := Lib.hid (N0.out.below hb)
  clear hb S0 N0
  go_wp2_with fail
  refine (rlines_any s _ (by omega)).mono ?_
  rintro e w2 ⟨A2, k2, n2, rfl, hn2, _, hb, _⟩
  have S2 := Lib.hid (S1.out.below hb)
  have N2 := Lib.hid (N1.out.below hb)
  have HN2 := Lib.hid hn2
  clear hb S1 N1 hn2
  obtain ⟨a0, a1, a2, a3⟩ := N2.out.1.cells
  simp only at a0 a1 a2
  by_cases hn : n ≤ 60
  · go_wp2_with fail
    refine (great_no c h x A cA n _ hn).mono ?_
    rintro e w3 ⟨rfl, hb⟩
    have S3 := Lib.hid (S2.out.below hb)
    have N3 := Lib.hid (N2.out.below hb)
    clear hb S2 N2 a0 a1 a2 a3
    obtain ⟨a0, a1, a2, a3⟩ := N3.out.1.cells
    simp only at a0 a1 a2
    go_wp2_with fail
    refine (form_any c h x A cA n ls _ N3.out.2.2 LX.out (by omega)).mono ?_
    rintro e w4 ⟨rfl, hb⟩
    have S4 := Lib.hid (S3.out.below hb)
    have N4 := Lib.hid (N3.out.below hb)
    clear hb S3 N3 a0 a1 a2 a3
    obtain ⟨a0, a1, a2, a3⟩ := N4.out.1.cells
    simp only at a0 a1 a2
    cases hf : formB ⟨c, h, x, ls⟩
    · clear hf
      go_wp2_with fail
      go_ret
      exact ⟨rfl, S4.out.1⟩
    · have HF := Lib.hid hf
      clear hf
      by_cases hss : s.size ≤ 900
      rotate_left
      · have d0 : decide ((900 : Int) < (s.size : Int)) = true := by simp; omega
        have d1 : decide (900 < s.size) = true := by simp; omega
        go_wp2_with fail
        go_ret
        exact ⟨rfl, S4.out.1⟩
      have d0 : decide ((900 : Int) < (s.size : Int)) = false := by simp; omega
      have d1 : decide (900 < s.size) = false := by simp; omega
      by_cases hr : 0 < n2
      · have g0 : decide ((0 : Int) < (n2 : Int)) = true := by simp; omega
        have g1 : decide (0 < n2) = true := by simp; omega
        go_wp2_with fail
        go_ret
        exact ⟨rfl, S4.out.1⟩
      · have g0 : decide ((0 : Int) < (n2 : Int)) = false := by simp; omega
        have g1 : decide (0 < n2) = false := by simp; omega
        have HFree : Hid ((10 : UInt8) ∉ bl s) := free_of_rows (by rw [← HN2.out]; omega)
        go_wp2_with fail
        refine (print_any c h x A cA n ls _ N4.out.2.2 LX.out (by omega) S4.out.2).mono ?_
        rintro e w5 ⟨rfl, hb⟩
        have S5 := Lib.hid (S4.out.below hb)
        clear hb S4 N4 a0 a1 a2 a3
        obtain ⟨t, HT⟩ : ∃ t, Hid (t = ba (printL ⟨c, h, x, ls⟩)) := ⟨_, rfl⟩
        have HTb : Hid (bl t = printL ⟨c, h, x, ls⟩) := by show _ = _; rw [HT.out, bl_ba]
        have hts : t.size ≤ 400 := by rw [size_bl, HTb.out]; exact print_len _
        rw [← HT.out]
        go_wp2_with fail
        refine (rlines_any t _ (by omega)).mono ?_
        rintro e w6 ⟨A6, k6, n6, rfl, hn6, hR6, hb, hcap6⟩
        rw [HTb.out, cut_print0 HF.out] at hn6 hR6
        simp only at hn6 hR6
        have S6 := Lib.hid (S5.out.below hb)
        have HN6 := Lib.hid hn6
        have HR6 := Lib.hid hR6
        have hn6a : 1 ≤ n6 := by rw [hn6]; simp [linesN]
        have hn6b : n6 ≤ 9 := by rw [hn6]; exact (okAll_net HF.out).2.1
        obtain ⟨b6, o6, rfl, _⟩ := hR6 (by rw [← hn6]; omega)
        clear hb S5 hn6 hR6
        obtain ⟨k, hk, hkt⟩ : ∃ k : Nat, (q : Int) % (n6 : Int) = (k : Int) ∧ k < n6 := ⟨q % n6, by omega, Nat.mod_lt _ (by omega)⟩
        have z1 : ((n6 : Int) == 0) = false := ne_beq (by omega)
        have z2 : (n6 == 0) = false := beq_eq_false_iff_ne.2 (by omega)
        rw [HTb.out, cut_print0 HF.out]
        have hz1 : ¬ 9223372036854775807 < 9 + s.size := by omega
        have hz2 : ¬ 9223372036854775807 < 9 + s.size + 1 := by omega
        have hz3 : ¬ 9223372036854775807 < s.size + 1 := by omega
        obtain ⟨al, Hal⟩ : ∃ al, Hid (al = if k = 0 then s ++ (⟨#[10]⟩ : ByteArray) else (⟨#[105, 110, 32, 49, 32, 49, 32, 49, 10]⟩ : ByteArray) ++ s ++ (⟨#[10]⟩ : ByteArray)) := ⟨_, rfl⟩
        have hals : al.size ≤ 100000 := by
          rw [Hal.out]
          split
          · rw [ByteArray.size_append]; show s.size + 1 ≤ _; omega
          · rw [ByteArray.size_append, ByteArray.size_append]; show 9 + s.size + 1 ≤ _; omega
        have HA : Hid (∃ m p, parseL (bl al) = if okAt k (bl s) = true then (m, 0, 0) else (Nt.zero, p, 12)) := by
          show ∃ m p, _
          by_cases hk0 : k = 0
          · refine ⟨⟨numAt (bl s) 0, numAt (bl s) 1, numAt (bl s) 2, []⟩, 1, ?_⟩
            have e1 : bl al = bl s ++ [10] := by rw [Hal.out, if_pos hk0, bl_add]; rfl
            rw [e1, alone_in _ HFree.out]
            unfold okAt; rw [if_pos hk0]
          · obtain ⟨m, hm⟩ := alone_ly (bl s) HFree.out
            refine ⟨m, 2, ?_⟩
            have e1 : bl al = oneL ++ [10] ++ bl s ++ [10] := by rw [Hal.out, if_neg hk0, bl_add, bl_add]; rfl
            rw [e1, hm]
            unfold okAt; rw [if_neg hk0]
        obtain ⟨m, p, hmp⟩ := HA.out
        have HMP := Lib.hid hmp
        clear hmp HA
        by_cases hk0 : k = 0
        · have y1 : ((k : Int) == 0) = true := by rw [hk0]; rfl
          have y2 : (k == 0) = true := by rw [hk0]; rfl
          have hal : s ++ (⟨#[10]⟩ : ByteArray) = al := by rw [Hal.out, if_pos hk0]
          have HAL := Lib.hid hal
          clear hal hk0
          go_wp2_with fail
          rw [HAL.out]
          cases hok : okAt k (bl s)
          rotate_left
          · have HQ : Hid (parseL (bl al) = (m, 0, 0)) := by show _ = _; rw [HMP.out, hok]; rfl
            clear hok
            refine (parse_is al _ HQ.out _ hals S6.out.2).mono ?_
            rintro e w7 ⟨A7, k7, n7, rfl, hj1, hj2, hb⟩
            have S7 := Lib.hid (S6.out.below hb)
            clear hb hj1 hj2 S6
            simp only
            go_wp2_with fail
            go_ret
            exact ⟨rfl, (S7.out.alloc _).1⟩
          have HQ : Hid (parseL (bl al) = (Nt.zero, p, 12)) := by show _ = _; rw [HMP.out, hok]; rfl
          have HOK := Lib.hid hok
          clear hok
          refine (parse_is al _ HQ.out _ hals S6.out.2).mono ?_
          rintro e w7 ⟨A7, k7, n7, rfl, hj1, hj2, hb⟩
          have S7 := Lib.hid ((S6.out.below hb).alloc (.cells #[.int .i64 0, .int .i64 0, .int .i64 0, .slice A7 n7 k7] 26))
          have HR7 := Lib.hid ((HR6.out.below hb).below ((Below.refl _ w7).alloc (Nat.le_refl _) (.cells #[.int .i64 0, .int .i64 0, .int .i64 0, .slice A7 n7 k7] 26)))
          clear hb hj1 hj2 S6 HR6
          simp only [Nt.zero]
          go_wp2_with fail
          obtain ⟨W, hW⟩ : ∃ W, W = w7.alloc (.cells #[.int .i64 0, .int .i64 0, .int .i64 0, .slice A7 n7 k7] 26) := ⟨_, rfl⟩
          rw [← hW] at S7 HR7 ⊢
          clear hW
          obtain ⟨j, hj⟩ : ∃ j : Nat, j = k + 1 := ⟨_, rfl⟩
          obtain ⟨A8, c8, hsl8, hR8⟩ := cut_from b6 o6 n6 k6 j (by omega) hcap6
          have HR8 := Lib.hid (hR8 W _ HR7.out HN6.out.symm)
          have HR9 := Lib.hid (HR7.out.take k)
          have hsl9 : ∀ wx, (Instr.slice 35 (.slice (some ⟨b6, o6, none⟩) n6 k6) none (some (.int .i64 (k : Int))) none).run Tryd.prog wx = .ok (.slice (some ⟨b6, o6, none⟩) k k6) wx := fun wx => by first | (go_simp; done) | (go_simp; intro hh; omega)
          have v1 : IntKind.i64.wrap ((k : Int) + 1) = (j : Int) := by rw [IntWalk.i64_in _ (by omega)]; omega
          have v2 : (k : Int) + 1 = (j : Int) := by omega
          have v3 : IntKind.i64.wrap (j : Int) = (j : Int) := IntWalk.i64_in _ (by omega)
          have HJ := Lib.hid hj
          have hjn : j ≤ n6 := by omega
          have hjk : k < j := by omega
          have L9 : Hid (k = ((linesN ⟨c, h, x, ls⟩).take k).length) := by show _ = _; rw [List.length_take, ← HN6.out]; omega
          have L8 : Hid (n6 - j = ((linesN ⟨c, h, x, ls⟩).drop j).length) := by show _ = _; rw [List.length_drop, ← HN6.out]
          clear hR8 hj
          go_region_law
            (first
              | ((refine step_txt (by rfl) _ _ (by rfl) W.heap.size (.slice (some ⟨W.heap.size, 0, none⟩) 0 0) 0 [] (by rfl) (void1 W 9 1) (some ⟨b6, o6, none⟩) k k6 ((linesN ⟨c, h, x, ls⟩).take k) (by rfl) (HR9.out.below (news1 W _)) L9.out (by omega) (news1 W _).size ?_; intro A10 c10 w10 hown10 hgrow10 hat10
                  have HB10 : Hid (Below W.heap.size W w10) := (news1 W _).grown hgrow10 (news1 W _).size (fun k hk => by simp [Value.ownBlock] at hk; omega)
                  have R10 := Lib.hid (grow_rule hgrow10)
                  have Z10 := Lib.hid hgrow10.size
                  have OW10 : Hid (w10.ownsRow W.heap.size 9 1 (.slice A10 k c10) k (cellsOf ((linesN ⟨c, h, x, ls⟩).take k))) := by
                    have := hown10
                    rw [Nat.zero_add, List.nil_append] at this
                    exact this
                  clear hown10 hgrow10 hat10))
              | ((refine step_txt (by rfl) _ _ (by rfl) W.heap.size (.slice (some ⟨W.heap.size, 0, none⟩) 0 0) 0 [] (by rfl) (void2a W 9 1 _) (some ⟨b6, o6, none⟩) k k6 ((linesN ⟨c, h, x, ls⟩).take k) (by rfl) (HR9.out.below (news2 W _ _)) L9.out (by omega) (news2 W _ _).size ?_; intro A10 c10 w10 hown10 hgrow10 hat10
                  have HB10 : Hid (Below W.heap.size W w10) := (news2 W _ _).grown hgrow10 (news2 W _ _).size (fun k hk => by simp [Value.ownBlock] at hk; omega)
                  have R10 := Lib.hid (grow_rule hgrow10)
                  have Z10 := Lib.hid hgrow10.size
                  have OW10 : Hid (w10.ownsRow W.heap.size 9 1 (.slice A10 k c10) k (cellsOf ((linesN ⟨c, h, x, ls⟩).take k))) := by
                    have := hown10
                    rw [Nat.zero_add, List.nil_append] at this
                    exact this
                  clear hown10 hgrow10 hat10))
              | ((refine step_txt (by rfl) _ _ (by rfl) W.heap.size (.slice (some ⟨W.heap.size + 1, 0, none⟩) 0 0) 0 [] (by rfl) (void2b W 9 1 _) (some ⟨b6, o6, none⟩) k k6 ((linesN ⟨c, h, x, ls⟩).take k) (by rfl) (HR9.out.below (news2 W _ _)) L9.out (by omega) (news2 W _ _).size ?_; intro A10 c10 w10 hown10 hgrow10 hat10
                  have HB10 : Hid (Below W.heap.size W w10) := (news2 W _ _).grown hgrow10 (news2 W _ _).size (fun k hk => by simp [Value.ownBlock] at hk; omega)
                  have R10 := Lib.hid (grow_rule hgrow10)
                  have Z10 := Lib.hid hgrow10.size
                  have OW10 : Hid (w10.ownsRow W.heap.size 9 1 (.slice A10 k c10) k (cellsOf ((linesN ⟨c, h, x, ls⟩).take k))) := by
                    have := hown10
                    rw [Nat.zero_add, List.nil_append] at this
                    exact this
                  clear hown10 hgrow10 hat10))
              | ((refine step_txt (by rfl) _ _ (by rfl) W.heap.size (.slice A10 k c10) k ((linesN ⟨c, h, x, ls⟩).take k) (by rfl) (OW10.out.alloc _) (some ⟨w10.heap.size, 0, none⟩) 1 1 [bl s] (by rfl) (rd_one (by simp) (by simp)) rfl (by omega) (Nat.le_trans HB10.out.size (by simp)) ?_; intro A11 c11 w11 hown11 hgrow11 hat11
                  have HB11 : Hid (Below W.heap.size W w11) := (HB10.out.alloc HB10.out.size _).grown hgrow11 (Nat.le_trans HB10.out.size (by simp)) (fun k hk => (OW10.out.lt k hk).1)
                  have OW11 := Lib.hid hown11
                  clear hown11 hgrow11 hat11))
              | ((refine step_txt (by rfl) _ _ (by rfl) W.heap.size (.slice A10 k c10) k ((linesN ⟨c, h, x, ls⟩).take k) (by rfl) (OW10.out) (some ⟨W.heap.size + 1, 0, none⟩) 1 1 [bl s] (by rfl) (rd_one (by rw [R10.out _ _ (by simp <;> omega) (by simp [Value.ownBlock])]; simp) (by have := Z10.out; simp at this; omega)) rfl (by omega) (HB10.out.size) ?_; intro A11 c11 w11 hown11 hgrow11 hat11
                  have HB11 : Hid (Below W.heap.size W w11) := (HB10.out).grown hgrow11 (HB10.out.size) (fun k hk => (OW10.out.lt k hk).1)
                  have OW11 := Lib.hid hown11
                  clear hown11 hgrow11 hat11))
              | ((refine step_txt (by rfl) _ _ (by rfl) W.heap.size (.slice A10 k c10) k ((linesN ⟨c, h, x, ls⟩).take k) (by rfl) (OW10.out) (some ⟨W.heap.size, 0, none⟩) 1 1 [bl s] (by rfl) (rd_one (by rw [R10.out _ _ (by simp <;> omega) (by simp [Value.ownBlock])]; simp) (by have := Z10.out; simp at this; omega)) rfl (by omega) (HB10.out.size) ?_; intro A11 c11 w11 hown11 hgrow11 hat11
                  have HB11 : Hid (Below W.heap.size W w11) := (HB10.out).grown hgrow11 (HB10.out.size) (fun k hk => (OW10.out.lt k hk).1)
                  have OW11 := Lib.hid hown11
                  clear hown11 hgrow11 hat11))
              | ((refine step_txt (by rfl) _ _ (by rfl) W.heap.size (.slice A11 (k + 1) c11) (k + 1) ((linesN ⟨c, h, x, ls⟩).take k ++ [bl s]) (by rfl) OW11.out A8 (n6 - j) c8 ((linesN ⟨c, h, x, ls⟩).drop j) (by rfl) (HR8.out.below HB11.out) L8.out (by omega) HB11.out.size ?_; intro A12 c12 w12 hown12 hgrow12 hat12
                  have HB12 : Hid (Below W.heap.size W w12) := HB11.out.grown hgrow12 HB11.out.size (fun k hk => (OW11.out.lt k hk).1)
                  have OW12 := Lib.hid hown12
                  clear hown12 hgrow12 hat12))
              | fail)
          all_goals
            obtain ⟨A13, c13, hv13, hn13, hR13⟩ := own_row OW12.out
            cases hv13
            have HR13 := Lib.hid hR13
            have LN13 := Lib.hid hn13
            have S12 := Lib.hid (S7.out.below HB12.out)
            have HX : Hid ((linesN ⟨c, h, x, ls⟩).take k ++ [bl s] ++ (linesN ⟨c, h, x, ls⟩).drop j = (linesN ⟨c, h, x, ls⟩).take k ++ [bl s] ++ (linesN ⟨c, h, x, ls⟩).drop (k + 1)) := by show _ = _; rw [HJ.out]
            have hbk : bulk ((linesN ⟨c, h, x, ls⟩).take k ++ [bl s] ++ (linesN ⟨c, h, x, ls⟩).drop j) ≤ 2000 := by
              have h1 := bulk_net ⟨c, h, x, ls⟩
              have h2 := (form_parts HF.out).2.1
              have h3 := bulk_take (linesN ⟨c, h, x, ls⟩) k
              have h4 := bulk_drop (linesN ⟨c, h, x, ls⟩) j
              have h5 : bulk [bl s] = s.size + 1 := by rw [size_bl]; simp [bulk]
              rw [bulk_append, bulk_append, h5]
              simp only at h1 h2
              omega
            clear hn13 hR13 v1 v2 v3 hsl8 hsl9 OW12 HB12 OW11 HB11 OW10 HB10 R10 Z10
            go_wp2_with fail
            refine (rtext_any _ _ _ _ _ HR13.out LN13.out (by omega)).mono ?_
            rintro e w13 ⟨rfl, rfl⟩
            obtain ⟨f, Hf⟩ : ∃ f, Hid (f = ba (layL 10 ((linesN ⟨c, h, x, ls⟩).take k ++ [bl s] ++ (linesN ⟨c, h, x, ls⟩).drop j))) := ⟨_, rfl⟩
            have hfs : f.size ≤ 100000 := by rw [Hf.out, ba_size, bulk_lay]; omega
            have HP : Hid (parseL (bl f) = (Nt.zero, k + 1, 12)) := by
              show _ = _
              rw [Hf.out, bl_ba, HX.out]
              exact parse_wrong HF.out k (by rw [← HN6.out]; exact hkt) (bl s) HFree.out HOK.out
            rw [← Hf.out]
            clear hbk
            go_wp2_with fail
            refine (parse_is f _ HP.out _ hfs S12.out.2).mono ?_
            rintro e w14 ⟨A14, k14, n14, rfl, hn14, hR14, hb⟩
            obtain rfl : n14 = 0 := hn14
            have S14 := Lib.hid (S12.out.below hb)
            have M14 := Lib.hid (Nn.new (N := Nt.zero) (n := 0) (k := k14) rfl hR14)
            clear hb hR14 S12
            simp only [Nt.zero]
            obtain ⟨b0, b1, b2, b3⟩ := M14.out.1.cells
            simp only [Nt.zero] at b0 b1 b2
            have g9 : (((k : Int) + 1) == ((k : Int) + 1)) = true := by simp
            have g10 : (((k + 1 : Nat) : Int) == ((k : Int) + 1)) = true := by simp
            go_wp2_with fail
            refine (same_any 0 0 0 _ _ _ _ _ _ [] [] _ M14.out.2.2 (Rl.nil _ none) rfl rfl (by decide) rfl).mono ?_
            rintro e w15 ⟨rfl, hb⟩
            have S15 := Lib.hid ((S14.out.alloc _).below hb)
            clear hb S14 M14 b0 b1 b2 b3
            go_wp2_with fail
            go_ret
            exact ⟨rfl, S15.out.1⟩
        · have y1 : ((k : Int) == 0) = false := ne_beq (by omega)
          have y2 : (k == 0) = false := beq_eq_false_iff_ne.2 hk0
          have hal : (⟨#[105, 110, 32, 49, 32, 49, 32, 49, 10]⟩ : ByteArray) ++ s ++ (⟨#[10]⟩ : ByteArray) = al := by rw [Hal.out, if_neg hk0]
          have HAL := Lib.hid hal
          clear hal hk0
          go_wp2_with fail
          rw [HAL.out]
          cases hok : okAt k (bl s)
          rotate_left
          · have HQ : Hid (parseL (bl al) = (m, 0, 0)) := by show _ = _; rw [HMP.out, hok]; rfl
            clear hok
            refine (parse_is al _ HQ.out _ hals S6.out.2).mono ?_
            rintro e w7 ⟨A7, k7, n7, rfl, hj1, hj2, hb⟩
            have S7 := Lib.hid (S6.out.below hb)
            clear hb hj1 hj2 S6
            simp only
            go_wp2_with fail
            go_ret
            exact ⟨rfl, (S7.out.alloc _).1⟩
          have HQ : Hid (parseL (bl al) = (Nt.zero, p, 12)) := by show _ = _; rw [HMP.out, hok]; rfl
          have HOK := Lib.hid hok
          clear hok
          refine (parse_is al _ HQ.out _ hals S6.out.2).mono ?_
          rintro e w7 ⟨A7, k7, n7, rfl, hj1, hj2, hb⟩
          have S7 := Lib.hid ((S6.out.below hb).alloc (.cells #[.int .i64 0, .int .i64 0, .int .i64 0, .slice A7 n7 k7] 26))
          have HR7 := Lib.hid ((HR6.out.below hb).below ((Below.refl _ w7).alloc (Nat.le_refl _) (.cells #[.int .i64 0, .int .i64 0, .int .i64 0, .slice A7 n7 k7] 26)))
          clear hb hj1 hj2 S6 HR6
          simp only [Nt.zero]
          go_wp2_with fail
          obtain ⟨W, hW⟩ : ∃ W, W = w7.alloc (.cells #[.int .i64 0, .int .i64 0, .int .i64 0, .slice A7 n7 k7] 26) := ⟨_, rfl⟩
          rw [← hW] at S7 HR7 ⊢
          clear hW
          obtain ⟨j, hj⟩ : ∃ j : Nat, j = k + 1 := ⟨_, rfl⟩
          obtain ⟨A8, c8, hsl8, hR8⟩ := cut_from b6 o6 n6 k6 j (by omega) hcap6
          have HR8 := Lib.hid (hR8 W _ HR7.out HN6.out.symm)
          have HR9 := Lib.hid (HR7.out.take k)
          have hsl9 : ∀ wx, (Instr.slice 35 (.slice (some ⟨b6, o6, none⟩) n6 k6) none (some (.int .i64 (k : Int))) none).run Tryd.prog wx = .ok (.slice (some ⟨b6, o6, none⟩) k k6) wx := fun wx => by first | (go_simp; done) | (go_simp; intro hh; omega)
          have v1 : IntKind.i64.wrap ((k : Int) + 1) = (j : Int) := by rw [IntWalk.i64_in _ (by omega)]; omega
          have v2 : (k : Int) + 1 = (j : Int) := by omega
          have v3 : IntKind.i64.wrap (j : Int) = (j : Int) := IntWalk.i64_in _ (by omega)
          have HJ := Lib.hid hj
          have hjn : j ≤ n6 := by omega
          have hjk : k < j := by omega
          have L9 : Hid (k = ((linesN ⟨c, h, x, ls⟩).take k).length) := by show _ = _; rw [List.length_take, ← HN6.out]; omega
          have L8 : Hid (n6 - j = ((linesN ⟨c, h, x, ls⟩).drop j).length) := by show _ = _; rw [List.length_drop, ← HN6.out]
          clear hR8 hj
          go_region_law
            (first
              | ((refine step_txt (by rfl) _ _ (by rfl) W.heap.size (.slice (some ⟨W.heap.size, 0, none⟩) 0 0) 0 [] (by rfl) (void1 W 9 1) (some ⟨b6, o6, none⟩) k k6 ((linesN ⟨c, h, x, ls⟩).take k) (by rfl) (HR9.out.below (news1 W _)) L9.out (by omega) (news1 W _).size ?_; intro A10 c10 w10 hown10 hgrow10 hat10
                  have HB10 : Hid (Below W.heap.size W w10) := (news1 W _).grown hgrow10 (news1 W _).size (fun k hk => by simp [Value.ownBlock] at hk; omega)
                  have R10 := Lib.hid (grow_rule hgrow10)
                  have Z10 := Lib.hid hgrow10.size
                  have OW10 : Hid (w10.ownsRow W.heap.size 9 1 (.slice A10 k c10) k (cellsOf ((linesN ⟨c, h, x, ls⟩).take k))) := by
                    have := hown10
                    rw [Nat.zero_add, List.nil_append] at this
                    exact this
                  clear hown10 hgrow10 hat10))
              | ((refine step_txt (by rfl) _ _ (by rfl) W.heap.size (.slice (some ⟨W.heap.size, 0, none⟩) 0 0) 0 [] (by rfl) (void2a W 9 1 _) (some ⟨b6, o6, none⟩) k k6 ((linesN ⟨c, h, x, ls⟩).take k) (by rfl) (HR9.out.below (news2 W _ _)) L9.out (by omega) (news2 W _ _).size ?_; intro A10 c10 w10 hown10 hgrow10 hat10
                  have HB10 : Hid (Below W.heap.size W w10) := (news2 W _ _).grown hgrow10 (news2 W _ _).size (fun k hk => by simp [Value.ownBlock] at hk; omega)
                  have R10 := Lib.hid (grow_rule hgrow10)
                  have Z10 := Lib.hid hgrow10.size
                  have OW10 : Hid (w10.ownsRow W.heap.size 9 1 (.slice A10 k c10) k (cellsOf ((linesN ⟨c, h, x, ls⟩).take k))) := by
                    have := hown10
                    rw [Nat.zero_add, List.nil_append] at this
                    exact this
                  clear hown10 hgrow10 hat10))
              | ((refine step_txt (by rfl) _ _ (by rfl) W.heap.size (.slice (some ⟨W.heap.size + 1, 0, none⟩) 0 0) 0 [] (by rfl) (void2b W 9 1 _) (some ⟨b6, o6, none⟩) k k6 ((linesN ⟨c, h, x, ls⟩).take k) (by rfl) (HR9.out.below (news2 W _ _)) L9.out (by omega) (news2 W _ _).size ?_; intro A10 c10 w10 hown10 hgrow10 hat10
                  have HB10 : Hid (Below W.heap.size W w10) := (news2 W _ _).grown hgrow10 (news2 W _ _).size (fun k hk => by simp [Value.ownBlock] at hk; omega)
                  have R10 := Lib.hid (grow_rule hgrow10)
                  have Z10 := Lib.hid hgrow10.size
                  have OW10 : Hid (w10.ownsRow W.heap.size 9 1 (.slice A10 k c10) k (cellsOf ((linesN ⟨c, h, x, ls⟩).take k))) := by
                    have := hown10
                    rw [Nat.zero_add, List.nil_append] at this
                    exact this
                  clear hown10 hgrow10 hat10))
              | ((refine step_txt (by rfl) _ _ (by rfl) W.heap.size (.slice A10 k c10) k ((linesN ⟨c, h, x, ls⟩).take k) (by rfl) (OW10.out.alloc _) (some ⟨w10.heap.size, 0, none⟩) 1 1 [bl s] (by rfl) (rd_one (by simp) (by simp)) rfl (by omega) (Nat.le_trans HB10.out.size (by simp)) ?_; intro A11 c11 w11 hown11 hgrow11 hat11
                  have HB11 : Hid (Below W.heap.size W w11) := (HB10.out.alloc HB10.out.size _).grown hgrow11 (Nat.le_trans HB10.out.size (by simp)) (fun k hk => (OW10.out.lt k hk).1)
                  have OW11 := Lib.hid hown11
                  clear hown11 hgrow11 hat11))
              | ((refine step_txt (by rfl) _ _ (by rfl) W.heap.size (.slice A10 k c10) k ((linesN ⟨c, h, x, ls⟩).take k) (by rfl) (OW10.out) (some ⟨W.heap.size + 1, 0, none⟩) 1 1 [bl s] (by rfl) (rd_one (by rw [R10.out _ _ (by simp <;> omega) (by simp [Value.ownBlock])]; simp) (by have := Z10.out; simp at this; omega)) rfl (by omega) (HB10.out.size) ?_; intro A11 c11 w11 hown11 hgrow11 hat11
                  have HB11 : Hid (Below W.heap.size W w11) := (HB10.out).grown hgrow11 (HB10.out.size) (fun k hk => (OW10.out.lt k hk).1)
                  have OW11 := Lib.hid hown11
                  clear hown11 hgrow11 hat11))
              | ((refine step_txt (by rfl) _ _ (by rfl) W.heap.size (.slice A10 k c10) k ((linesN ⟨c, h, x, ls⟩).take k) (by rfl) (OW10.out) (some ⟨W.heap.size, 0, none⟩) 1 1 [bl s] (by rfl) (rd_one (by rw [R10.out _ _ (by simp <;> omega) (by simp [Value.ownBlock])]; simp) (by have := Z10.out; simp at this; omega)) rfl (by omega) (HB10.out.size) ?_; intro A11 c11 w11 hown11 hgrow11 hat11
                  have HB11 : Hid (Below W.heap.size W w11) := (HB10.out).grown hgrow11 (HB10.out.size) (fun k hk => (OW10.out.lt k hk).1)
                  have OW11 := Lib.hid hown11
                  clear hown11 hgrow11 hat11))
              | ((refine step_txt (by rfl) _ _ (by rfl) W.heap.size (.slice A11 (k + 1) c11) (k + 1) ((linesN ⟨c, h, x, ls⟩).take k ++ [bl s]) (by rfl) OW11.out A8 (n6 - j) c8 ((linesN ⟨c, h, x, ls⟩).drop j) (by rfl) (HR8.out.below HB11.out) L8.out (by omega) HB11.out.size ?_; intro A12 c12 w12 hown12 hgrow12 hat12
                  have HB12 : Hid (Below W.heap.size W w12) := HB11.out.grown hgrow12 HB11.out.size (fun k hk => (OW11.out.lt k hk).1)
                  have OW12 := Lib.hid hown12
                  clear hown12 hgrow12 hat12))
              | fail)
          all_goals
            obtain ⟨A13, c13, hv13, hn13, hR13⟩ := own_row OW12.out
            cases hv13
            have HR13 := Lib.hid hR13
            have LN13 := Lib.hid hn13
            have S12 := Lib.hid (S7.out.below HB12.out)
            have HX : Hid ((linesN ⟨c, h, x, ls⟩).take k ++ [bl s] ++ (linesN ⟨c, h, x, ls⟩).drop j = (linesN ⟨c, h, x, ls⟩).take k ++ [bl s] ++ (linesN ⟨c, h, x, ls⟩).drop (k + 1)) := by show _ = _; rw [HJ.out]
            have hbk : bulk ((linesN ⟨c, h, x, ls⟩).take k ++ [bl s] ++ (linesN ⟨c, h, x, ls⟩).drop j) ≤ 2000 := by
              have h1 := bulk_net ⟨c, h, x, ls⟩
              have h2 := (form_parts HF.out).2.1
              have h3 := bulk_take (linesN ⟨c, h, x, ls⟩) k
              have h4 := bulk_drop (linesN ⟨c, h, x, ls⟩) j
              have h5 : bulk [bl s] = s.size + 1 := by rw [size_bl]; simp [bulk]
              rw [bulk_append, bulk_append, h5]
              simp only at h1 h2
              omega
            clear hn13 hR13 v1 v2 v3 hsl8 hsl9 OW12 HB12 OW11 HB11 OW10 HB10 R10 Z10
            go_wp2_with fail
            refine (rtext_any _ _ _ _ _ HR13.out LN13.out (by omega)).mono ?_
            rintro e w13 ⟨rfl, rfl⟩
            obtain ⟨f, Hf⟩ : ∃ f, Hid (f = ba (layL 10 ((linesN ⟨c, h, x, ls⟩).take k ++ [bl s] ++ (linesN ⟨c, h, x, ls⟩).drop j))) := ⟨_, rfl⟩
            have hfs : f.size ≤ 100000 := by rw [Hf.out, ba_size, bulk_lay]; omega
            have HP : Hid (parseL (bl f) = (Nt.zero, k + 1, 12)) := by
              show _ = _
              rw [Hf.out, bl_ba, HX.out]
              exact parse_wrong HF.out k (by rw [← HN6.out]; exact hkt) (bl s) HFree.out HOK.out
            rw [← Hf.out]
            clear hbk
            go_wp2_with fail
            refine (parse_is f _ HP.out _ hfs S12.out.2).mono ?_
            rintro e w14 ⟨A14, k14, n14, rfl, hn14, hR14, hb⟩
            obtain rfl : n14 = 0 := hn14
            have S14 := Lib.hid (S12.out.below hb)
            have M14 := Lib.hid (Nn.new (N := Nt.zero) (n := 0) (k := k14) rfl hR14)
            clear hb hR14 S12
            simp only [Nt.zero]
            obtain ⟨b0, b1, b2, b3⟩ := M14.out.1.cells
            simp only [Nt.zero] at b0 b1 b2
            have g9 : (((k : Int) + 1) == ((k : Int) + 1)) = true := by simp
            have g10 : (((k + 1 : Nat) : Int) == ((k : Int) + 1)) = true := by simp
            go_wp2_with fail
            refine (same_any 0 0 0 _ _ _ _ _ _ [] [] _ M14.out.2.2 (Rl.nil _ none) rfl rfl (by decide) rfl).mono ?_
            rintro e w15 ⟨rfl, hb⟩
            have S15 := Lib.hid ((S14.out.alloc _).below hb)
            clear hb S14 M14 b0 b1 b2 b3
            go_wp2_with fail
            go_ret
            exact ⟨rfl, S15.out.1⟩
  · go_wp2_with fail
    refine (great_yes c h x A cA n _ (by omega)).mono ?_
    rintro e w3 ⟨rfl, hb⟩
    have S3 := Lib.hid (S2.out.below hb)
    clear hb S2 N2 a0 a1 a2 a3
    go_wp2_with fail
    go_ret
    exact ⟨rfl, S3.out.1⟩

end Go.Proofs.YtmlflmlgjjjmfaaDoor
