/-
  The law TextNumbers, walked.
-/
import Derived.Test.YtodapekcgbhfoaaDoorLFits
namespace Go.Proofs.YtodapekcgbhfoaaDoor
open Go.RowKit

theorem ba_ne {l : List UInt8} (h : l ≠ []) : ((ba l).toList == []) = false := by
  rw [toList_bl, bl_ba]
  cases l with
  | nil => exact absurd rfl h
  | cons => rfl
theorem ba_ne' {l : List UInt8} (h : l ≠ []) : ¬ (ba l).toList = [] := by rw [toList_bl, bl_ba]; exact h
theorem ba_ne2 {l : List UInt8} (h : l ≠ []) : (ba l).toList.isEmpty = false := by
  rw [toList_bl, bl_ba]
  cases l with
  | nil => exact absurd rfl h
  | cons => rfl
theorem conv_dgt (w : World) (d : UInt8) : (convert 35 9 (.slice (some ⟨w.heap.size, 0, none⟩) 1 1)).run Tryd.prog (w.alloc (.cells #[.int .u8 (48 + (d.toNat : Int) % 10)] 5)) = .ok (.string (ba [dgt d.toNat])) (w.alloc (.cells #[.int .u8 (48 + (d.toNat : Int) % 10)] 5)) := by
  have h := conv_one w (dgt d.toNat)
  have e : ((dgt d.toNat).toNat : Int) = 48 + (d.toNat : Int) % 10 := by rw [dgt_nat]; omega
  rw [e] at h
  exact h
theorem get_ten {n : Int} {u : Nat} (h1 : 1 ≤ n) (h2 : n ≤ 99999) : getB (numL n ++ [dgt u]) = true ∧ getN (numL n ++ [dgt u]) = 10 * n + (u : Int) % 10 := by
  have e : numL n ++ [dgt u] = dec (10 * n.toNat + u % 10) := by
    rw [numL_in (by omega) (by omega), dec_ten n.toNat (u % 10) (by omega) (by omega)]
    congr 2
    unfold dgt; congr 2; omega
  rw [e]
  exact ⟨getB_dec (by omega), by rw [getN_dec (by omega)]; omega⟩

set_option maxHeartbeats 4000000 in
set_option maxRecDepth 100000 in
theorem numbers_in (n : Int) (s : ByteArray) (d : UInt8) (w : World) (ht : Tab w) (hs : s.size ≤ 3000) :
    Calls Tryd.prog 4 #[.int .i64 n, .string s, .int .u8 (d.toNat : Int)] w fun e w' => e = .returned (.bool true) ∧ Below w.heap.size w w' := by
  have HT := Lib.hid ht; clear ht
  have ds : decide (3000 < (s.size : Int)) = false := decide_eq_false (by omega)
  go_enter Tryd.func4, Tryd.ntmps4
  go_wp2_with fail
  refine (head_any _ HT.out).mono ?_
  rintro e w1 ⟨rfl, hb⟩
  have HT1 := Lib.hid (HT.out.below hb)
  have HB1 := Lib.hid hb
  clear hb HT
  go_wp2_with fail
  refine (number_any n _ HT1.out).mono ?_
  rintro e w2 ⟨rfl, hb⟩
  have HT2 := Lib.hid (HT1.out.below hb)
  have HB2 := Lib.hid (chain HB1.out hb)
  clear hb HT1 HB1
  go_wp2_with fail
  refine (get_any (ba (numL n)) _ HT2.out).mono ?_
  rintro e w3 ⟨rfl, hb⟩
  rw [bl_ba]
  have HT3 := Lib.hid (HT2.out.below hb)
  have HB3 := Lib.hid (chain HB2.out hb)
  clear hb HT2 HB2
  go_wp2_with fail
  refine (get_any s _ HT3.out).mono ?_
  rintro e w4 ⟨rfl, hb⟩
  have HT4 := Lib.hid (HT3.out.below hb)
  have HB4 := Lib.hid (chain HB3.out hb)
  clear hb HT3 HB3
  obtain ⟨it, hit⟩ : ∃ it, it = getB (bl s) := ⟨_, rfl⟩
  obtain ⟨b, hb⟩ : ∃ b, b = getN (bl s) := ⟨_, rfl⟩
  rw [← hit, ← hb]
  have HS : Hid (it = true → numL b = bl s) := fun h => by rw [hb]; exact num_get (hit.symm.trans h)
  clear hit hb
  by_cases hr : 0 ≤ n ∧ n ≤ 999999
  · obtain ⟨h0, h1⟩ := hr
    have e1 : getB (numL n) = true := by rw [numL_in h0 h1]; exact getB_dec (by omega)
    have e2 : getN (numL n) = n := by rw [numL_in h0 h1, getN_dec (by omega)]; omega
    have hne : numL n ≠ [] := by rw [numL_in h0 h1]; exact dec_ne _
    rw [e1, e2]
    have f1 := ba_ne hne
    have f2 := ba_ne' hne
    have f3 := ba_ne2 hne
    have a1 : decide (0 ≤ n) = true := decide_eq_true h0
    have a2 : decide (n ≤ 999999) = true := decide_eq_true h1
    have a3 : (n != n) = false := by simp
    obtain ⟨t, HTt⟩ : ∃ t, Hid (t = numL n) := ⟨_, rfl⟩
    rw [← HTt.out] at f1 f2 f3 ⊢
    clear e1 e2 hne
    by_cases q1 : 1 ≤ n
    · have b1 : decide (n < 1) = false := decide_eq_false (by omega)
      by_cases q2 : n ≤ 99999
      · have b2 : decide (99999 < n) = false := decide_eq_false (by omega)
        cases it
        · skip
          have hcv := conv_dgt w4 d
          obtain ⟨cb, HC⟩ : ∃ cb, Hid (cb = ba [dgt d.toNat]) := ⟨_, rfl⟩
          rw [← HC.out] at hcv
          have hcs : cb.size ≤ 1 := by rw [HC.out, ba_size]; simp
          obtain ⟨tb, HB⟩ : ∃ tb, Hid (tb = ba t) := ⟨_, rfl⟩
          rw [← HB.out] at f1 f2 f3 ⊢
          have htb : tb.size ≤ 6 := by
            rw [HB.out, ba_size, HTt.out, numL_in (by omega) (by omega)]
            exact dec_len (k := 5) (by omega)
          go_wp2_with fail
          have HA := Lib.hid ((Below.refl w4.heap.size w4).alloc (Nat.le_refl _) (.cells #[.int .u8 (48 + (d.toNat : Int) % 10)] 5))
          refine (get_any (tb ++ cb) _ (HT4.out.below HA.out)).mono ?_
          rintro e w5 ⟨rfl, hb⟩
          have HB5 := Lib.hid (chain (chain HB4.out HA.out) hb)
          have hx : bl (tb ++ cb) = numL n ++ [dgt d.toNat] := by rw [bl_add, HB.out, HC.out, bl_ba, bl_ba, HTt.out]
          have hten := get_ten (u := d.toNat) q1 q2
          rw [hx, hten.1, hten.2]
          clear hb HB4 HT4 HA hx hten hcv
          go_wp2_with fail
          go_ret
          exact ⟨rfl, HB5.out⟩
        · skip
          have HS2 := Lib.hid (HS.out rfl)
          clear HS
          go_wp2_with fail
          refine (number_any b _ HT4.out).mono ?_
          rintro e w5 ⟨rfl, hb⟩
          have HT5 := Lib.hid (HT4.out.below hb)
          have HB5 := Lib.hid (chain HB4.out hb)
          have hq : ((ba (numL b)).toList == s.toList) = true := text_eq (by rw [bl_ba]; exact HS2.out)
          clear hb HT4 HB4 HS2
          have hcv := conv_dgt w5 d
          obtain ⟨cb, HC⟩ : ∃ cb, Hid (cb = ba [dgt d.toNat]) := ⟨_, rfl⟩
          rw [← HC.out] at hcv
          have hcs : cb.size ≤ 1 := by rw [HC.out, ba_size]; simp
          obtain ⟨tb, HB⟩ : ∃ tb, Hid (tb = ba t) := ⟨_, rfl⟩
          rw [← HB.out] at f1 f2 f3 ⊢
          have htb : tb.size ≤ 6 := by
            rw [HB.out, ba_size, HTt.out, numL_in (by omega) (by omega)]
            exact dec_len (k := 5) (by omega)
          go_wp2_with fail
          have HA := Lib.hid ((Below.refl w5.heap.size w5).alloc (Nat.le_refl _) (.cells #[.int .u8 (48 + (d.toNat : Int) % 10)] 5))
          refine (get_any (tb ++ cb) _ (HT5.out.below HA.out)).mono ?_
          rintro e w6 ⟨rfl, hb⟩
          have HB6 := Lib.hid (chain (chain HB5.out HA.out) hb)
          have hx : bl (tb ++ cb) = numL n ++ [dgt d.toNat] := by rw [bl_add, HB.out, HC.out, bl_ba, bl_ba, HTt.out]
          have hten := get_ten (u := d.toNat) q1 q2
          rw [hx, hten.1, hten.2]
          clear hb HB5 HT5 HA hx hten hcv
          go_wp2_with fail
          go_ret
          exact ⟨rfl, HB6.out⟩
      · have b2 : decide (99999 < n) = true := decide_eq_true (by omega)
        clear q1 q2 h0 h1
        cases it
        · skip
          go_wp2_with fail
          go_ret
          exact ⟨rfl, HB4.out⟩
        · skip
          have HS2 := Lib.hid (HS.out rfl)
          clear HS
          go_wp2_with fail
          refine (number_any b _ HT4.out).mono ?_
          rintro e w5 ⟨rfl, hb⟩
          have HT5 := Lib.hid (HT4.out.below hb)
          have HB5 := Lib.hid (chain HB4.out hb)
          have hq : ((ba (numL b)).toList == s.toList) = true := text_eq (by rw [bl_ba]; exact HS2.out)
          clear hb HT4 HB4 HS2
          go_wp2_with fail
          go_ret
          exact ⟨rfl, HB5.out⟩
    · have b1 : decide (n < 1) = true := decide_eq_true (by omega)
      clear q1 h0 h1
      cases it
      · skip
        go_wp2_with fail
        go_ret
        exact ⟨rfl, HB4.out⟩
      · skip
        have HS2 := Lib.hid (HS.out rfl)
        clear HS
        go_wp2_with fail
        refine (number_any b _ HT4.out).mono ?_
        rintro e w5 ⟨rfl, hb⟩
        have HT5 := Lib.hid (HT4.out.below hb)
        have HB5 := Lib.hid (chain HB4.out hb)
        have hq : ((ba (numL b)).toList == s.toList) = true := text_eq (by rw [bl_ba]; exact HS2.out)
        clear hb HT4 HB4 HS2
        go_wp2_with fail
        go_ret
        exact ⟨rfl, HB5.out⟩
  · have e0 : numL n = [] := numL_out hr
    rw [e0]
    have e1 : getB [] = false := by
      cases hq : getB []
      · rfl
      · exact absurd (getB_len hq).1 (by decide)
    have e2 : getN [] = 0 := getN_no e1
    rw [e1, e2]
    have f1 : (ba []).toList = [] := by rw [toList_bl, bl_ba]
    obtain ⟨tb, HB⟩ : ∃ tb, Hid (tb = ba []) := ⟨_, rfl⟩
    rw [← HB.out] at f1 ⊢
    clear e0 e1 e2
    by_cases q1 : 0 ≤ n
    · have a1 : decide (0 ≤ n) = true := decide_eq_true q1
      have a2 : decide (n ≤ 999999) = false := decide_eq_false (by omega)
      have b1 : decide (n < 1) = false := decide_eq_false (by omega)
      have b2 : decide (99999 < n) = true := decide_eq_true (by omega)
      clear q1 hr
      cases it
      · skip
        go_wp2_with fail
        go_ret
        exact ⟨rfl, HB4.out⟩
      · skip
        have HS2 := Lib.hid (HS.out rfl)
        clear HS
        go_wp2_with fail
        refine (number_any b _ HT4.out).mono ?_
        rintro e w5 ⟨rfl, hb⟩
        have HT5 := Lib.hid (HT4.out.below hb)
        have HB5 := Lib.hid (chain HB4.out hb)
        have hq : ((ba (numL b)).toList == s.toList) = true := text_eq (by rw [bl_ba]; exact HS2.out)
        clear hb HT4 HB4 HS2
        go_wp2_with fail
        go_ret
        exact ⟨rfl, HB5.out⟩
    · have a1 : decide (0 ≤ n) = false := decide_eq_false q1
      have b1 : decide (n < 1) = true := decide_eq_true (by omega)
      clear q1 hr
      cases it
      · skip
        go_wp2_with fail
        go_ret
        exact ⟨rfl, HB4.out⟩
      · skip
        have HS2 := Lib.hid (HS.out rfl)
        clear HS
        go_wp2_with fail
        refine (number_any b _ HT4.out).mono ?_
        rintro e w5 ⟨rfl, hb⟩
        have HT5 := Lib.hid (HT4.out.below hb)
        have HB5 := Lib.hid (chain HB4.out hb)
        have hq : ((ba (numL b)).toList == s.toList) = true := text_eq (by rw [bl_ba]; exact HS2.out)
        clear hb HT4 HB4 HS2
        go_wp2_with fail
        go_ret
        exact ⟨rfl, HB5.out⟩

set_option maxHeartbeats 1000000 in
theorem numbers_walk (n : Int) (s : ByteArray) (d : UInt8) (w : World) (ht : Tab w) :
    Calls Tryd.prog 4 #[.int .i64 n, .string s, .int .u8 (d.toNat : Int)] w fun e w' => e = .returned (.bool true) ∧ Below w.heap.size w w' := by
  by_cases hs : s.size ≤ 3000
  · exact numbers_in n s d w ht hs
  · have ds : decide (3000 < (s.size : Int)) = true := decide_eq_true (by omega)
    have HT := Lib.hid ht
    clear ht hs
    go_enter Tryd.func4, Tryd.ntmps4
    go_wp2_with fail
    refine (head_any _ HT.out).mono ?_
    rintro e w1 ⟨rfl, hb⟩
    have HB1 := Lib.hid hb
    clear hb
    go_wp2_with fail
    go_ret
    exact ⟨rfl, HB1.out⟩

end Go.Proofs.YtodapekcgbhfoaaDoor
