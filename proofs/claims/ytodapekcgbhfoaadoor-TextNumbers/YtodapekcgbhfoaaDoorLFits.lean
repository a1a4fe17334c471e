/-
  The law TextFits, walked.
-/
import Derived.Test.YtodapekcgbhfoaaDoorHead2
import Derived.Laws.IdiomStrings
namespace Go.Proofs.YtodapekcgbhfoaaDoor
open Go.RowKit

theorem conv_one (w : World) (c : UInt8) : (convert 35 9 (.slice (some ⟨w.heap.size, 0, none⟩) 1 1)).run Tryd.prog (w.alloc (.cells #[.int .u8 (c.toNat : Int)] 5)) = .ok (.string (ba [c])) (w.alloc (.cells #[.int .u8 (c.toNat : Int)] 5)) :=
  run_convert_bytes_back (P := Tryd.prog) (w.alloc (.cells #[.int .u8 (c.toNat : Int)] 5)) 35 9 5 ⟨w.heap.size, 0, none⟩ 1 [c] Tryd.underlying35 Tryd.underlying5 Tryd.underlying9 (fun j hj => by
    have : j = 0 := by simpa using hj
    subst this
    simp [Addr.add])

/-- What a byte may be. -/
theorem byte_kinds (c : UInt8) : (isDig c = true ∧ 48 ≤ c.toNat ∧ c.toNat ≤ 57) ∨ (97 ≤ c.toNat ∧ c.toNat ≤ 122) ∨ (c.toNat = 32) ∨ (wb c = false ∧ c ≠ 32 ∧ isDig c = false ∧ ¬ (97 ≤ c.toNat ∧ c.toNat ≤ 122) ∧ ¬ (48 ≤ c.toNat ∧ c.toNat ≤ 57)) := by
  by_cases h1 : 48 ≤ c.toNat ∧ c.toNat ≤ 57
  · exact .inl ⟨dig_of_nat h1, h1⟩
  · by_cases h2 : 97 ≤ c.toNat ∧ c.toNat ≤ 122
    · exact .inr (.inl h2)
    · by_cases h3 : c.toNat = 32
      · exact .inr (.inr (.inl h3))
      · refine .inr (.inr (.inr ⟨?_, fun e => h3 (by rw [e]; rfl), ?_, h2, h1⟩))
        · rw [← rune_byte]
          unfold runeB
          have a1 : (decide (97 ≤ (c.toNat : Int)) && decide ((c.toNat : Int) ≤ 122)) = false := by
            rw [Bool.and_eq_false_iff, decide_eq_false_iff_not, decide_eq_false_iff_not]; omega
          have a2 : (decide (48 ≤ (c.toNat : Int)) && decide ((c.toNat : Int) ≤ 57)) = false := by
            rw [Bool.and_eq_false_iff, decide_eq_false_iff_not, decide_eq_false_iff_not]; omega
          rw [a1, a2]; rfl
        · cases hq : isDig c
          · rfl
          · exact absurd (dig_nat hq) h1

set_option maxHeartbeats 2000000 in
set_option maxRecDepth 100000 in
theorem fits_in (s t : ByteArray) (c : UInt8) (w : World) (ht : Tab w) (hs : s.size ≤ 3000) (htt : t.size ≤ 3000) :
    Calls Tryd.prog 8 #[.string s, .int .u8 (c.toNat : Int), .string t] w fun e w' => e = .returned (.bool true) ∧ Below w.heap.size w w' := by
  have HT := Lib.hid ht; clear ht
  have ds : decide (3000 < (s.size : Int)) = false := decide_eq_false (by omega)
  have dt : decide (3000 < (t.size : Int)) = false := decide_eq_false (by omega)
  go_enter Tryd.func8, Tryd.ntmps8
  go_wp2_with fail
  refine (head_any _ HT.out).mono ?_
  rintro e w1 ⟨rfl, hb⟩
  have HT1 := Lib.hid (HT.out.below hb)
  have HB1 := Lib.hid hb
  clear hb HT
  have hcv := conv_one w1 c
  obtain ⟨cb, HC⟩ : ∃ cb, Hid (cb = ba [c]) := ⟨_, rfl⟩
  rw [← HC.out] at hcv
  have hcs : cb.size ≤ 1 := by rw [HC.out, ba_size]; simp
  go_wp2_with fail
  have hx : (s ++ cb ++ t).size ≤ 100000 := by rw [ByteArray.size_append, ByteArray.size_append]; omega
  have HX : Hid (bl (s ++ cb ++ t) = bl s ++ c :: bl t) := by
    show _ = _
    rw [bl_add, bl_add, HC.out, bl_ba]; simp
  obtain ⟨x, hxx⟩ : ∃ x, x = s ++ cb ++ t := ⟨_, rfl⟩
  rw [← hxx] at hx HX ⊢
  have HA := Lib.hid ((Below.refl w1.heap.size w1).alloc (Nat.le_refl _) (.cells #[.int .u8 (c.toNat : Int)] 5))
  have hs1 := Lib.hid hx
  clear hxx hcv hcs
  refine (words_any x _ hx).mono ?_
  rintro e w2 ⟨A2, c2, n2, rfl, _, _, hb⟩
  have HB2 := Lib.hid (chain (chain HB1.out HA.out) hb)
  have HT2 := Lib.hid ((HT1.out.below HA.out).below hb)
  clear hb HB1 HA HT1
  have hK : okW (bl x) = true → c = 32 ∨ wb c = true := fun h => ok_bytes h c (by rw [HX.out]; simp)
  have hG : getB (bl x) = true → isDig c = true := fun h => getB_digs h c (by rw [HX.out]; simp)
  obtain ⟨is, his⟩ : ∃ is, is = okW (bl x) := ⟨_, rfl⟩
  obtain ⟨it, hit⟩ : ∃ it, it = getB (bl x) := ⟨_, rfl⟩
  rw [← his] at hK ⊢
  rw [← hit] at hG
  have HK := Lib.hid hK
  have HG := Lib.hid hG
  have HI := Lib.hid hit
  clear his hit hK hG
  go_wp2_with fail
  refine (get_any x _ HT2.out).mono ?_
  rintro e w3 ⟨rfl, hb⟩
  rw [← HI.out]
  have HB3 := Lib.hid (chain HB2.out hb)
  clear hb HB2 HT2 HI
  rcases byte_kinds c with ⟨_, h1, h2⟩ | ⟨h1, h2⟩ | h1 | ⟨h1, h2, h3, h4, h5⟩
  · have a1 : decide (48 ≤ (c.toNat : Int)) = true := decide_eq_true (by omega)
    have a2 : decide ((c.toNat : Int) ≤ 57) = true := decide_eq_true (by omega)
    have a3 : decide (97 ≤ (c.toNat : Int)) = false := decide_eq_false (by omega)
    have a4 : decide (48 ≤ c.toNat) = true := decide_eq_true (by omega)
    have a5 : decide (c.toNat ≤ 57) = true := decide_eq_true (by omega)
    have a6 : decide (97 ≤ c.toNat) = false := decide_eq_false (by omega)
    clear h1 h2
    cases is <;> cases it
    all_goals
      go_wp2_with fail
      go_ret
      exact ⟨rfl, HB3.out⟩
  · have a1 : decide (48 ≤ (c.toNat : Int)) = true := decide_eq_true (by omega)
    have a2 : decide (48 ≤ c.toNat) = true := decide_eq_true (by omega)
    have a3 : decide ((c.toNat : Int) ≤ 57) = false := decide_eq_false (by omega)
    have a4 : decide (c.toNat ≤ 57) = false := decide_eq_false (by omega)
    have a5 : decide (97 ≤ (c.toNat : Int)) = true := decide_eq_true (by omega)
    have a6 : decide (97 ≤ c.toNat) = true := decide_eq_true (by omega)
    have a7 : decide ((c.toNat : Int) ≤ 122) = true := decide_eq_true (by omega)
    have a8 : decide (c.toNat ≤ 122) = true := decide_eq_true (by omega)
    obtain rfl : it = false := by
      cases it
      · rfl
      · have := dig_nat (HG.out rfl); omega
    clear h1 h2
    cases is
    all_goals
      go_wp2_with fail
      go_ret
      exact ⟨rfl, HB3.out⟩
  · have a1 : decide (48 ≤ (c.toNat : Int)) = false := decide_eq_false (by omega)
    have a2 : decide (48 ≤ c.toNat) = false := decide_eq_false (by omega)
    have a3 : decide (97 ≤ (c.toNat : Int)) = false := decide_eq_false (by omega)
    have a4 : decide (97 ≤ c.toNat) = false := decide_eq_false (by omega)
    have b1 : ((c.toNat : Int) == 32) = true := by simp; omega
    obtain rfl : it = false := by
      cases it
      · rfl
      · have := dig_nat (HG.out rfl); omega
    clear h1
    cases is
    all_goals
      go_wp2_with fail
      go_ret
      exact ⟨rfl, HB3.out⟩
  · obtain rfl : is = false := by
      cases is
      · rfl
      · rcases HK.out rfl with h | h
        · exact absurd h h2
        · rw [h1] at h; cases h
    obtain rfl : it = false := by
      cases it
      · rfl
      · have := dig_nat (HG.out rfl); omega
    clear h1 h2 h3
    by_cases q1 : c.toNat < 48
    · have a1 : decide (48 ≤ (c.toNat : Int)) = false := decide_eq_false (by omega)
      have a3 : decide (97 ≤ (c.toNat : Int)) = false := decide_eq_false (by omega)
      have a4 : decide (48 ≤ c.toNat) = false := decide_eq_false (by omega)
      have a6 : decide (97 ≤ c.toNat) = false := decide_eq_false (by omega)
      clear h4 h5 q1
      go_wp2_with fail
      go_ret
      exact ⟨rfl, HB3.out⟩
    · have a1 : decide (48 ≤ (c.toNat : Int)) = true := decide_eq_true (by omega)
      have a2 : decide ((c.toNat : Int) ≤ 57) = false := decide_eq_false (by omega)
      have a4 : decide (48 ≤ c.toNat) = true := decide_eq_true (by omega)
      have a5 : decide (c.toNat ≤ 57) = false := decide_eq_false (by omega)
      by_cases q2 : c.toNat < 97
      · have a3 : decide (97 ≤ (c.toNat : Int)) = false := decide_eq_false (by omega)
        have a6 : decide (97 ≤ c.toNat) = false := decide_eq_false (by omega)
        clear h4 h5 q1 q2
        go_wp2_with fail
        go_ret
        exact ⟨rfl, HB3.out⟩
      · have a3 : decide (97 ≤ (c.toNat : Int)) = true := decide_eq_true (by omega)
        have a6 : decide (97 ≤ c.toNat) = true := decide_eq_true (by omega)
        have a7 : decide ((c.toNat : Int) ≤ 122) = false := decide_eq_false (by omega)
        have a8 : decide (c.toNat ≤ 122) = false := decide_eq_false (by omega)
        clear h4 h5 q1 q2
        go_wp2_with fail
        go_ret
        exact ⟨rfl, HB3.out⟩

set_option maxHeartbeats 1000000 in
theorem fits_walk (s t : ByteArray) (c : UInt8) (w : World) (ht : Tab w) :
    Calls Tryd.prog 8 #[.string s, .int .u8 (c.toNat : Int), .string t] w fun e w' => e = .returned (.bool true) ∧ Below w.heap.size w w' := by
  by_cases hs : s.size ≤ 3000
  · by_cases htt : t.size ≤ 3000
    · exact fits_in s t c w ht hs htt
    · have ds : decide (3000 < (s.size : Int)) = false := decide_eq_false (by omega)
      have dt : decide (3000 < (t.size : Int)) = true := decide_eq_true (by omega)
      have HT := Lib.hid ht
      clear ht hs htt
      go_enter Tryd.func8, Tryd.ntmps8
      go_wp2_with fail
      refine (head_any _ HT.out).mono ?_
      rintro e w1 ⟨rfl, hb⟩
      have HB1 := Lib.hid hb
      clear hb
      go_wp2_with fail
      go_ret
      exact ⟨rfl, HB1.out⟩
  · have ds : decide (3000 < (s.size : Int)) = true := decide_eq_true (by omega)
    have HT := Lib.hid ht
    clear ht hs
    go_enter Tryd.func8, Tryd.ntmps8
    go_wp2_with fail
    refine (head_any _ HT.out).mono ?_
    rintro e w1 ⟨rfl, hb⟩
    have HB1 := Lib.hid hb
    clear hb
    go_wp2_with fail
    go_ret
    exact ⟨rfl, HB1.out⟩

end Go.Proofs.YtodapekcgbhfoaaDoor
