/-
  SameTerms and SameInts of rows alike; the fixed questions of layer 6; what sizes answers.
-/
import Derived.Test.YtnfmpladdfgadaaTPub
namespace Go.Proofs.Ytnfmpladdfgadaa
open Go.RowKit

theorem term_ne (a b : Int) (w : World) : (binOp .neq 64 (.agg #[.int .i64 a, .int .i64 b]) (.agg #[.int .i64 a, .int .i64 b])).run Try.prog w = .ok (.bool false) w := by
  go_simp
theorem term_eq (a b : Int) (w : World) : (binOp .eql 64 (.agg #[.int .i64 a, .int .i64 b]) (.agg #[.int .i64 a, .int .i64 b])).run Try.prog w = .ok (.bool true) w := by
  go_simp
set_option maxHeartbeats 2000000 in
theorem same_terms (ss : List Tm) (A B : Option Addr) (cA cB n : Nat) (w : World) (ha : Rg tcells w A ss) (hb : Rg tcells w B ss) (ln : n = ss.length) (hn : n ≤ 5000) :
    Calls Try.prog 26 #[.slice A n cA, .slice B n cB] w fun e w' => e = .returned (.bool true) ∧ Below w.heap.size w w' := by
  have HA := Lib.hid ha; have HB := Lib.hid hb; have LX := Lib.hid ln
  clear ha hb ln
  go_enter Try.func26, Try.ntmps26
  go_wp2_with fail
  go_loopw [5] (fun i wr => ∃ k : Nat, k ≤ n ∧ i = .int .i64 k ∧ Hid (Below w.heap.size w wr)) (fun i _ => n - (intOf i).toNat)
  case atStart => exact ⟨0, Nat.zero_le _, rfl, Below.refl _ _⟩
  case round =>
    obtain ⟨k, hk, rfl, HC⟩ := hrel
    by_cases hlt : k < n
    · have hkl : k < ss.length := by rw [← LX.out]; exact hlt
      obtain ⟨b1, o1, rfl, l1, q⟩ := HA.out (by omega)
      obtain ⟨b2, o2, rfl, l2, r⟩ := HB.out (by omega)
      obtain ⟨S, hS⟩ : ∃ S, ss[k]? = some S := ⟨_, List.getElem?_eq_getElem hkl⟩
      have q1 := Rg.at tcells_len q hS
      have q2 : ∀ r u, (tcells S)[r]? = some u → wr.cell? ⟨b1, o1 + k * 2 + r, none⟩ = some u := fun r u hu => (HC.out.cell (p := ⟨b1, o1 + k * 2 + r, none⟩) l1).trans (q1 r u hu)
      have r1 := Rg.at tcells_len r hS
      have r2 : ∀ r u, (tcells S)[r]? = some u → wr.cell? ⟨b2, o2 + k * 2 + r, none⟩ = some u := fun r u hu => (HC.out.cell (p := ⟨b2, o2 + k * 2 + r, none⟩) l2).trans (r1 r u hu)
      have p0 : wr.cell? ⟨b1, o1 + k * 2, none⟩ = _ := q2 0 _ rfl
      have s0 : wr.cell? ⟨b2, o2 + k * 2, none⟩ = _ := r2 0 _ rfl
      have p1 := q2 1 _ rfl
      have s1 := r2 1 _ rfl
      have hne := term_ne S.x S.w
      clear q q1 q2 r r1 r2 hS
      go_wp2_with fail
      go_region
      go_wp2_with fail
      go_roundw
      case rel => exact ⟨k + 1, by omega, by go_num, HC.out.drew⟩
      case measure => simp [intOf]; omega
    · obtain rfl : k = n := by omega
      go_wp2_with fail
      go_ret
      exact ⟨rfl, HC.out⟩

set_option maxHeartbeats 2000000 in
theorem same_ints (ss : List Int) (A B : Option Addr) (cA cB n : Nat) (w : World) (ha : Rg icells w A ss) (hb : Rg icells w B ss) (ln : n = ss.length) (hn : n ≤ 5000) :
    Calls Try.prog 29 #[.slice A n cA, .slice B n cB] w fun e w' => e = .returned (.bool true) ∧ Below w.heap.size w w' := by
  have HA := Lib.hid ha; have HB := Lib.hid hb; have LX := Lib.hid ln
  clear ha hb ln
  go_enter Try.func29, Try.ntmps29
  go_wp2_with fail
  go_loopw [5] (fun i wr => ∃ k : Nat, k ≤ n ∧ i = .int .i64 k ∧ Hid (Below w.heap.size w wr)) (fun i _ => n - (intOf i).toNat)
  case atStart => exact ⟨0, Nat.zero_le _, rfl, Below.refl _ _⟩
  case round =>
    obtain ⟨k, hk, rfl, HC⟩ := hrel
    by_cases hlt : k < n
    · have hkl : k < ss.length := by rw [← LX.out]; exact hlt
      obtain ⟨b1, o1, rfl, l1, q⟩ := HA.out (by omega)
      obtain ⟨b2, o2, rfl, l2, r⟩ := HB.out (by omega)
      obtain ⟨S, hS⟩ : ∃ S, ss[k]? = some S := ⟨_, List.getElem?_eq_getElem hkl⟩
      have q1 := Rg.at icells_len q hS
      have q2 : ∀ r u, (icells S)[r]? = some u → wr.cell? ⟨b1, o1 + k * 1 + r, none⟩ = some u := fun r u hu => (HC.out.cell (p := ⟨b1, o1 + k * 1 + r, none⟩) l1).trans (q1 r u hu)
      have r1 := Rg.at icells_len r hS
      have r2 : ∀ r u, (icells S)[r]? = some u → wr.cell? ⟨b2, o2 + k * 1 + r, none⟩ = some u := fun r u hu => (HC.out.cell (p := ⟨b2, o2 + k * 1 + r, none⟩) l2).trans (r1 r u hu)
      have p0 : wr.cell? ⟨b1, o1 + k, none⟩ = some (.int .i64 S) := by have := q2 0 _ rfl; rwa [Nat.mul_one] at this
      have s0 : wr.cell? ⟨b2, o2 + k, none⟩ = some (.int .i64 S) := by have := r2 0 _ rfl; rwa [Nat.mul_one] at this
      clear q q1 q2 r r1 r2 hS
      go_wp2_with fail
      go_region
      go_wp2_with fail
      go_roundw
      case rel => exact ⟨k + 1, by omega, by go_num, HC.out.drew⟩
      case measure => simp [intOf]; omega
    · obtain rfl : k = n := by omega
      go_wp2_with fail
      go_ret
      exact ⟨rfl, HC.out⟩


def tm0 : List Tm := [⟨0, 9⟩, ⟨1, 10⟩, ⟨2, 11⟩, ⟨4, 12⟩, ⟨5, 13⟩, ⟨6, 14⟩, ⟨8, 15⟩, ⟨9, 16⟩, ⟨10, 17⟩]
def tm1 : List Tm := [⟨5, -1⟩]
def tm2 : List Tm := [⟨0, 22⟩, ⟨1, 23⟩]
def pt0 : List Int := [4, 5, 6, 7]
theorem tq0 : termsN ⟨1, 4, 4, ls0⟩ 0 4 = tm0 := by kernel_rfl
theorem tq1 : termsN ⟨1, 4, 4, ls0⟩ 1 5 = tm1 := by kernel_rfl
theorem tq2 : termsN ⟨1, 4, 4, ls0⟩ 3 2 = tm2 := by kernel_rfl
theorem tq3 : partsN ⟨1, 4, 4, ls0⟩ 2 1 = pt0 := by kernel_rfl
theorem tq4 : termsN ⟨1, 4, 4, ls0⟩ 2 0 = [] := by kernel_rfl
theorem tq5 : partsN ⟨1, 4, 4, ls0⟩ 1 0 = [] := by kernel_rfl
theorem tq6 : termsN ⟨1, 4, 4, ls0⟩ 0 8 = [] := by kernel_rfl

set_option maxHeartbeats 4000000 in
set_option maxRecDepth 100000 in
theorem head6_any (w : World) : Calls Try.prog 25 #[] w fun e w' => e = .returned (.bool true) ∧ Below w.heap.size w w' := by
  go_enter Try.func25, Try.ntmps25
  go_wp2_with fail
  refine (small_any w).mono ?_
  rintro e w0 ⟨g, rfl, hx, hb⟩
  obtain ⟨W, hW⟩ : ∃ W, W = w0.alloc (.cells #[.int .i64 1, .int .i64 4, .int .i64 4, .slice (some ⟨g, 0, none⟩) 4 4] 26) := ⟨_, rfl⟩
  have B0 : Hid (Below w.heap.size w W) := by rw [hW]; exact chain_alloc hb _
  have R0 : Hid (Rl W (some ⟨g, 0, none⟩) ls0) := by rw [hW]; exact hx.below ((Below.refl _ w0).alloc (Nat.le_refl _) _)
  have N0 : Hid (NB W w0.heap.size 1 4 4 (.slice (some ⟨g, 0, none⟩) 4 4)) := by rw [hW]; exact NB.new w0 1 4 4 _
  clear hx hb
  obtain ⟨c0, c1, c2, c3⟩ := N0.out.cells
  go_wp2_with fail
  rw [← hW]
  clear hW
  refine (terms_any 1 4 4 _ _ _ ls0 0 4 _ tq0 _ R0.out rfl (by decide)).mono ?_
  rintro e w1 ⟨A1, k1, n1, rfl, hn, hR, hb, hd1, hd2⟩
  obtain rfl : n1 = 9 := hn
  have Q1_1 : Hid (Rg tcells w1 A1 tm0) := hR
  have B1 := Lib.hid (chain B0.out hb)
  have R1 := Lib.hid (R0.out.below hb)
  have N1 := Lib.hid (N0.out.below hb)
  clear hb hR hd1 hd2 c0 c1 c2 c3 B0 R0 N0
  obtain ⟨c0, c1, c2, c3⟩ := N1.out.cells
  go_wp2_with fail
  refine (terms_any 1 4 4 _ _ _ ls0 1 5 _ tq1 _ R1.out rfl (by decide)).mono ?_
  rintro e w2 ⟨A2, k2, n2, rfl, hn, hR, hb, hd1, hd2⟩
  obtain rfl : n2 = 1 := hn
  have Q2_2 : Hid (Rg tcells w2 A2 tm1) := hR
  have B2 := Lib.hid (chain B1.out hb)
  have R2 := Lib.hid (R1.out.below hb)
  have N2 := Lib.hid (N1.out.below hb)
  have Q1_2 := Lib.hid (Q1_1.out.below hb)
  clear hb hR hd1 hd2 c0 c1 c2 c3 B1 R1 N1 Q1_1
  obtain ⟨c0, c1, c2, c3⟩ := N2.out.cells
  go_wp2_with fail
  refine (terms_any 1 4 4 _ _ _ ls0 3 2 _ tq2 _ R2.out rfl (by decide)).mono ?_
  rintro e w3 ⟨A3, k3, n3, rfl, hn, hR, hb, hd1, hd2⟩
  obtain rfl : n3 = 2 := hn
  have Q3_3 : Hid (Rg tcells w3 A3 tm2) := hR
  have B3 := Lib.hid (chain B2.out hb)
  have R3 := Lib.hid (R2.out.below hb)
  have N3 := Lib.hid (N2.out.below hb)
  have Q1_3 := Lib.hid (Q1_2.out.below hb)
  have Q2_3 := Lib.hid (Q2_2.out.below hb)
  clear hb hR hd1 hd2 c0 c1 c2 c3 B2 R2 N2 Q1_2 Q2_2
  obtain ⟨c0, c1, c2, c3⟩ := N3.out.cells
  go_wp2_with fail
  refine (parts_any 1 4 4 _ _ _ ls0 2 1 _ tq3 _ R3.out rfl (by decide)).mono ?_
  rintro e w4 ⟨A4, k4, n4, rfl, hn, hR, hb, hd1, hd2⟩
  obtain rfl : n4 = 4 := hn
  have Q4_4 : Hid (Rg icells w4 A4 pt0) := hR
  have B4 := Lib.hid (chain B3.out hb)
  have R4 := Lib.hid (R3.out.below hb)
  have N4 := Lib.hid (N3.out.below hb)
  have Q1_4 := Lib.hid (Q1_3.out.below hb)
  have Q2_4 := Lib.hid (Q2_3.out.below hb)
  have Q3_4 := Lib.hid (Q3_3.out.below hb)
  clear hb hR hd1 hd2 c0 c1 c2 c3 B3 R3 N3 Q1_3 Q2_3 Q3_3
  obtain ⟨c0, c1, c2, c3⟩ := N4.out.cells
  obtain ⟨ba, oa, hA1, hla, qa⟩ := Q1_4.out (by decide)
  subst hA1
  have a0 : w4.cell? ⟨ba, oa, none⟩ = some (.int .i64 0) := qa 0 _ rfl
  have a1 : w4.cell? ⟨ba, oa + 1, none⟩ = some (.int .i64 9) := qa 1 _ rfl
  have a16 : w4.cell? ⟨ba, oa + 16, none⟩ = some (.int .i64 10) := qa 16 _ rfl
  have a17 : w4.cell? ⟨ba, oa + 17, none⟩ = some (.int .i64 17) := qa 17 _ rfl
  have e1 := term_eq 0 9
  have e2 := term_eq 10 17
  clear qa
  go_wp2_with fail
  refine (same_terms tm1 _ _ _ _ 1 _ (Q2_4.out.alloc _) (rg_block (heap_alloc_new w4 _) rfl) rfl (by decide)).mono ?_
  rintro e w5 ⟨rfl, hb⟩
  have hb := ((Below.refl w4.heap.size w4).alloc (Nat.le_refl _) _).trans (hb.mono (by simp))
  have B5 := Lib.hid (chain B4.out hb)
  have R5 := Lib.hid (R4.out.below hb)
  have N5 := Lib.hid (N4.out.below hb)
  have Q3_5 := Lib.hid (Q3_4.out.below hb)
  have Q4_5 := Lib.hid (Q4_4.out.below hb)
  clear hb a0 a1 a16 a17 c0 c1 c2 c3 B4 R4 N4 Q1_4 Q2_4 Q3_4 Q4_4 e1 e2
  go_wp2_with fail
  refine (same_terms tm2 _ _ _ _ 2 _ (Q3_5.out.alloc _) (rg_block (heap_alloc_new w5 _) rfl) rfl (by decide)).mono ?_
  rintro e w6 ⟨rfl, hb⟩
  have hb := ((Below.refl w5.heap.size w5).alloc (Nat.le_refl _) _).trans (hb.mono (by simp))
  have B6 := Lib.hid (chain B5.out hb)
  have R6 := Lib.hid (R5.out.below hb)
  have N6 := Lib.hid (N5.out.below hb)
  have Q4_6 := Lib.hid (Q4_5.out.below hb)
  clear hb B5 R5 N5 Q3_5 Q4_5
  go_wp2_with fail
  refine (same_ints pt0 _ _ _ _ 4 _ (Q4_6.out.alloc _) (rg_block (heap_alloc_new w6 _) rfl) rfl (by decide)).mono ?_
  rintro e w7 ⟨rfl, hb⟩
  have hb := ((Below.refl w6.heap.size w6).alloc (Nat.le_refl _) _).trans (hb.mono (by simp))
  have B7 := Lib.hid (chain B6.out hb)
  have R7 := Lib.hid (R6.out.below hb)
  have N7 := Lib.hid (N6.out.below hb)
  clear hb B6 R6 N6 Q4_6
  obtain ⟨c0, c1, c2, c3⟩ := N7.out.cells
  go_wp2_with fail
  refine (terms_any 1 4 4 _ _ _ ls0 2 0 _ tq4 _ R7.out rfl (by decide)).mono ?_
  rintro e w8 ⟨A8, k8, n8, rfl, hn, hR, hb, hd1, hd2⟩
  obtain rfl : n8 = 0 := hn
  have B8 := Lib.hid (chain B7.out hb)
  have R8 := Lib.hid (R7.out.below hb)
  have N8 := Lib.hid (N7.out.below hb)
  clear hb hR hd1 hd2 c0 c1 c2 c3 B7 R7 N7
  obtain ⟨c0, c1, c2, c3⟩ := N8.out.cells
  go_wp2_with fail
  refine (parts_any 1 4 4 _ _ _ ls0 1 0 _ tq5 _ R8.out rfl (by decide)).mono ?_
  rintro e w9 ⟨A9, k9, n9, rfl, hn, hR, hb, hd1, hd2⟩
  obtain rfl : n9 = 0 := hn
  have B9 := Lib.hid (chain B8.out hb)
  have R9 := Lib.hid (R8.out.below hb)
  have N9 := Lib.hid (N8.out.below hb)
  clear hb hR hd1 hd2 c0 c1 c2 c3 B8 R8 N8
  obtain ⟨c0, c1, c2, c3⟩ := N9.out.cells
  go_wp2_with fail
  refine (terms_any 1 4 4 _ _ _ ls0 0 8 _ tq6 _ R9.out rfl (by decide)).mono ?_
  rintro e w10 ⟨A10, k10, n10, rfl, hn, hR, hb, hd1, hd2⟩
  obtain rfl : n10 = 0 := hn
  have B10 := Lib.hid (chain B9.out hb)
  have R10 := Lib.hid (R9.out.below hb)
  have N10 := Lib.hid (N9.out.below hb)
  clear hb hR hd1 hd2 c0 c1 c2 c3 B9 R9 N9
  obtain ⟨c0, c1, c2, c3⟩ := N10.out.cells
  go_wp2_with fail
  go_ret
  exact ⟨rfl, B10.out⟩

end Go.Proofs.Ytnfmpladdfgadaa
