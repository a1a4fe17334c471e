/-
  What the document's own Word, Words, Lines, Join and Text answer: the same as package text.
-/
import Derived.Test.YtmlflmlgjjjmfaaDoorHead
import Derived.Laws.IdiomStrings
namespace Go.Proofs.YtmlflmlgjjjmfaaDoor
open Go.RowKit

/-- What a byte may be, as far as words go. -/
theorem wb_parts (c : UInt8) : wb c = ((decide (97 ≤ c.toNat) && decide (c.toNat ≤ 122)) || (decide (48 ≤ c.toNat) && decide (c.toNat ≤ 57))) := by
  rw [← rune_byte]
  unfold runeB
  have h1 : decide ((97 : Int) ≤ (c.toNat : Int)) = decide (97 ≤ c.toNat) := by rw [Bool.eq_iff_iff, decide_eq_true_eq, decide_eq_true_eq]; omega
  have h2 : decide ((c.toNat : Int) ≤ 122) = decide (c.toNat ≤ 122) := by rw [Bool.eq_iff_iff, decide_eq_true_eq, decide_eq_true_eq]; omega
  have h3 : decide ((48 : Int) ≤ (c.toNat : Int)) = decide (48 ≤ c.toNat) := by rw [Bool.eq_iff_iff, decide_eq_true_eq, decide_eq_true_eq]; omega
  have h4 : decide ((c.toNat : Int) ≤ 57) = decide (c.toNat ≤ 57) := by rw [Bool.eq_iff_iff, decide_eq_true_eq, decide_eq_true_eq]; omega
  rw [h1, h2, h3, h4]

set_option maxHeartbeats 1000000 in
theorem word_any (s : ByteArray) (w : World) (hs : s.size ≤ 1000000) :
    Calls Tryd.prog 47 #[.string s] w fun e w' => e = .returned (.bool (wordB (bl s))) ∧ w = w' := by
  go_enter Tryd.func47, Tryd.ntmps47
  go_wp2_with fail
  go_loop [3] (fun i => ∃ k : Nat, k ≤ s.size ∧ i = .int .i64 k ∧ Hid (((bl s).take k).all wb = true)) (fun i => s.size - (intOf i).toNat)
  case atStart => exact ⟨0, Nat.zero_le _, rfl, rfl⟩
  case round =>
    obtain ⟨k, hk, rfl, HA⟩ := hrel
    by_cases hlt : k < s.size
    · have hg := bl_get s k hlt
      have hwp := wb_parts (s[k]'hlt)
      cases hw : wb (s[k]'hlt)
      · have HW := Lib.hid (word_no hg hw)
        rw [hw] at hwp
        obtain ⟨q1, q2⟩ : ¬ (97 ≤ (s[k]'hlt).toNat ∧ (s[k]'hlt).toNat ≤ 122) ∧ ¬ (48 ≤ (s[k]'hlt).toNat ∧ (s[k]'hlt).toNat ≤ 57) := by
          constructor <;> intro h <;> simp [h.1, h.2] at hwp
        clear hwp hw hg
        by_cases r1 : (s[k]'hlt).toNat < 48
        · skip
          have a1 : decide (48 ≤ ((s[k]'hlt).toNat : Int)) = false := decide_eq_false (by omega)
          have a2 : decide (48 ≤ (s[k]'hlt).toNat) = false := decide_eq_false (by omega)
          have a3 : decide (97 ≤ ((s[k]'hlt).toNat : Int)) = false := decide_eq_false (by omega)
          have a4 : decide (97 ≤ (s[k]'hlt).toNat) = false := decide_eq_false (by omega)
          clear q1 q2 r1
          go_wp2_with fail
          go_ret
          exact ⟨ret_bool HW.out.symm, rfl⟩
        · by_cases r2 : (s[k]'hlt).toNat < 97
          · skip
            have a1 : decide (48 ≤ ((s[k]'hlt).toNat : Int)) = true := decide_eq_true (by omega)
            have a2 : decide (48 ≤ (s[k]'hlt).toNat) = true := decide_eq_true (by omega)
            have a3 : decide (((s[k]'hlt).toNat : Int) ≤ 57) = false := decide_eq_false (by omega)
            have a4 : decide ((s[k]'hlt).toNat ≤ 57) = false := decide_eq_false (by omega)
            have a5 : decide (97 ≤ ((s[k]'hlt).toNat : Int)) = false := decide_eq_false (by omega)
            have a6 : decide (97 ≤ (s[k]'hlt).toNat) = false := decide_eq_false (by omega)
            clear q1 q2 r1 r2
            go_wp2_with fail
            go_ret
            exact ⟨ret_bool HW.out.symm, rfl⟩
          · skip
            have a1 : decide (48 ≤ ((s[k]'hlt).toNat : Int)) = true := decide_eq_true (by omega)
            have a2 : decide (48 ≤ (s[k]'hlt).toNat) = true := decide_eq_true (by omega)
            have a3 : decide (((s[k]'hlt).toNat : Int) ≤ 57) = false := decide_eq_false (by omega)
            have a4 : decide ((s[k]'hlt).toNat ≤ 57) = false := decide_eq_false (by omega)
            have a5 : decide (97 ≤ ((s[k]'hlt).toNat : Int)) = true := decide_eq_true (by omega)
            have a6 : decide (97 ≤ (s[k]'hlt).toNat) = true := decide_eq_true (by omega)
            have a7 : decide (((s[k]'hlt).toNat : Int) ≤ 122) = false := decide_eq_false (by omega)
            have a8 : decide ((s[k]'hlt).toNat ≤ 122) = false := decide_eq_false (by omega)
            clear q1 q2 r1 r2
            go_wp2_with fail
            go_ret
            exact ⟨ret_bool HW.out.symm, rfl⟩
      · have HT : Hid (((bl s).take (k + 1)).all wb = true) := by
          show _ = true
          rw [take_bl s k hlt, List.all_append, HA.out]; simp [hw]
        rw [hw] at hwp
        have q : (97 ≤ (s[k]'hlt).toNat ∧ (s[k]'hlt).toNat ≤ 122) ∨ (48 ≤ (s[k]'hlt).toNat ∧ (s[k]'hlt).toNat ≤ 57) := by simpa using hwp.symm
        clear hwp hw hg
        rcases q with ⟨q1, q2⟩ | ⟨q1, q2⟩
        · skip
          have a1 : decide (97 ≤ ((s[k]'hlt).toNat : Int)) = true := decide_eq_true (by omega)
          have a2 : decide (97 ≤ (s[k]'hlt).toNat) = true := decide_eq_true (by omega)
          have a3 : decide (((s[k]'hlt).toNat : Int) ≤ 122) = true := decide_eq_true (by omega)
          have a4 : decide ((s[k]'hlt).toNat ≤ 122) = true := decide_eq_true (by omega)
          clear q1 q2
          go_wp2_with fail
          go_round
          case rel => exact ⟨k + 1, by omega, by go_num, HT⟩
          case measure => simp [intOf]; omega
        · skip
          have a1 : decide (97 ≤ ((s[k]'hlt).toNat : Int)) = false := decide_eq_false (by omega)
          have a2 : decide (97 ≤ (s[k]'hlt).toNat) = false := decide_eq_false (by omega)
          have a3 : decide (48 ≤ ((s[k]'hlt).toNat : Int)) = true := decide_eq_true (by omega)
          have a4 : decide (48 ≤ (s[k]'hlt).toNat) = true := decide_eq_true (by omega)
          have a5 : decide (((s[k]'hlt).toNat : Int) ≤ 57) = true := decide_eq_true (by omega)
          have a6 : decide ((s[k]'hlt).toNat ≤ 57) = true := decide_eq_true (by omega)
          clear q1 q2
          go_wp2_with fail
          go_round
          case rel => exact ⟨k + 1, by omega, by go_num, HT⟩
          case measure => simp [intOf]; omega
    · obtain rfl : k = s.size := by omega
      have hall := HA.out
      rw [size_bl, List.take_length] at hall
      by_cases h0 : bl s = []
      · have HW : Hid (wordB (bl s) = false) := by show _ = false; rw [h0]; rfl
        have hz : s.size = 0 := by rw [size_bl, h0]; rfl
        have d1 : decide (1 ≤ (s.size : Int)) = false := decide_eq_false (by omega)
        have d2 : decide (1 ≤ s.size) = false := decide_eq_false (by omega)
        clear hall HA h0 hz
        go_wp2_with fail
        go_ret
        exact ⟨ret_bool HW.out.symm, rfl⟩
      · have HW := Lib.hid (word_yes h0 hall)
        have hz : 1 ≤ s.size := by
          rw [size_bl]
          rcases Nat.eq_zero_or_pos (bl s).length with e | e
          · exact absurd (List.eq_nil_of_length_eq_zero e) h0
          · exact e
        have d1 : decide (1 ≤ (s.size : Int)) = true := decide_eq_true (by omega)
        have d2 : decide (1 ≤ s.size) = true := decide_eq_true (by omega)
        clear hall HA h0 hz
        go_wp2_with fail
        go_ret
        exact ⟨ret_bool HW.out.symm, rfl⟩

set_option maxHeartbeats 1000000 in
theorem rtext_any (A : Option Addr) (cA n : Nat) (xs : List (List UInt8)) (w : World) (hx : Rd w A xs) (ln : n = xs.length) (hn : bulk xs ≤ 100000) :
    Calls Tryd.prog 19 #[.slice A n cA] w fun e w' => e = .returned (.string (ba (layL 10 xs))) ∧ w = w' := by
  have hnn : n ≤ 100000 := by have := bulk_len xs; omega
  have HX := Lib.hid hx; clear hx
  have LX := Lib.hid ln; clear ln
  go_enter Tryd.func19, Tryd.ntmps19
  go_wp2_with fail
  go_loop [3, 4] (fun v i => ∃ (k : Nat) (t : ByteArray), k ≤ n ∧ i = .int .i64 k ∧ v = .string t ∧ Hid (bl t = layL 10 (xs.take k))) (fun _ i => n - (intOf i).toNat)
  case atStart => exact ⟨0, ⟨#[]⟩, Nat.zero_le _, rfl, rfl, rfl⟩
  case round =>
    obtain ⟨k, t, hk, rfl, rfl, HV⟩ := hrel
    by_cases hlt : k < n
    · obtain ⟨b1, o1, rfl, l1, c1⟩ := HX.out (by rw [← LX.out]; omega)
      obtain ⟨x, HXk⟩ : ∃ x : List UInt8, Hid (x = xs.getD k []) := ⟨_, rfl⟩
      obtain ⟨y, hy⟩ : ∃ y, y = ba x := ⟨_, rfl⟩
      have d1 : w.cell? ⟨b1, o1 + k, none⟩ = some (.string y) := by
        rw [c1 k (by rw [← LX.out]; exact hlt), hy, HXk.out]
      have htk : xs.take (k + 1) = xs.take k ++ [x] := by rw [HXk.out]; exact take_getD (by rw [← LX.out]; exact hlt)
      have hu := bulk_take xs (k + 1)
      rw [htk, bulk_snoc] at hu
      have ht : t.size ≤ 100000 := by rw [size_bl, HV.out, bulk_lay]; omega
      have hys : y.size ≤ 100000 := by rw [hy, ba_size]; omega
      have HS : Hid (bl (t ++ y ++ (⟨#[10]⟩ : ByteArray)) = layL 10 (xs.take (k + 1))) := by
        show _ = _
        rw [bl_add, bl_add, HV.out, htk, layL_append, layL_one, hy, bl_ba, List.append_assoc]; rfl
      clear c1 htk hu hy HV
      go_wp2_with fail
      go_round
      case rel => exact ⟨k + 1, _, by omega, by go_num, rfl, HS⟩
      case measure => simp [intOf]; omega
    · obtain rfl : k = n := by omega
      have hv := HV.out
      rw [LX.out, List.take_length] at hv
      have HE : Hid (t = ba (layL 10 xs)) := by show _ = _; rw [← hv, ba_bl]
      clear hv HV
      go_wp2_with fail
      go_ret
      exact ⟨by rw [← HE.out]; rfl, rfl⟩

end Go.Proofs.YtmlflmlgjjjmfaaDoor
