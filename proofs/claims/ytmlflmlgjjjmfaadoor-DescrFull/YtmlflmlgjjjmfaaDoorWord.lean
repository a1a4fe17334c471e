/-
  What a rune is, what a text consists of, and whether texts are words: what the functions of package text answer.
-/
import Derived.Test.YtmlflmlgjjjmfaaDoorMem
namespace Go.Proofs.YtmlflmlgjjjmfaaDoor
open Go.RowKit

def runeB (r : Int) : Bool := (decide (97 ≤ r) && decide (r ≤ 122)) || (decide (48 ≤ r) && decide (r ≤ 57))
theorem rune_byte (b : UInt8) : runeB (b.toNat : Int) = wb b := by
  unfold runeB wb
  have h1 : decide ((97 : Int) ≤ (b.toNat : Int)) = decide (97 ≤ b) := by
    rw [Bool.eq_iff_iff, decide_eq_true_eq, decide_eq_true_eq, UInt8.le_iff_toNat_le]; show _ ↔ 97 ≤ _; omega
  have h2 : decide ((b.toNat : Int) ≤ 122) = decide (b ≤ 122) := by
    rw [Bool.eq_iff_iff, decide_eq_true_eq, decide_eq_true_eq, UInt8.le_iff_toNat_le]; show _ ↔ _ ≤ 122; omega
  have h3 : decide ((48 : Int) ≤ (b.toNat : Int)) = decide (48 ≤ b) := by
    rw [Bool.eq_iff_iff, decide_eq_true_eq, decide_eq_true_eq, UInt8.le_iff_toNat_le]; show _ ↔ 48 ≤ _; omega
  have h4 : decide ((b.toNat : Int) ≤ 57) = decide (b ≤ 57) := by
    rw [Bool.eq_iff_iff, decide_eq_true_eq, decide_eq_true_eq, UInt8.le_iff_toNat_le]; show _ ↔ _ ≤ 57; omega
  rw [h1, h2, h3, h4]
theorem rune_not {r : Int} (h : 128 ≤ r) : runeB r = false := by
  unfold runeB
  have h2 : decide (r ≤ 122) = false := by simp; omega
  have h4 : decide (r ≤ 57) = false := by simp; omega
  rw [h2, h4]; simp
theorem wb_high {b : UInt8} (h : 128 ≤ b.toNat) : wb b = false := by rw [← rune_byte]; exact rune_not (by omega)

theorem ret_bool {a b : Bool} (h : a = b) : Ending.returned (.bool a) = .returned (.bool b) := by rw [h]

set_option maxHeartbeats 400000 in
theorem of_word (r : Int) (w : World) : Calls Tryd.prog 56 #[.int .i32 r] w fun e w' => e = .returned (.bool (runeB r)) ∧ w = w' := by
  have hB : ∀ b1 b2 b3 b4 : Bool, decide (97 ≤ r) = b1 → decide (r ≤ 122) = b2 → decide (48 ≤ r) = b3 → decide (r ≤ 57) = b4 → runeB r = ((b1 && b2) || (b3 && b4)) := by
    intro b1 b2 b3 b4 h1 h2 h3 h4
    unfold runeB; rw [h1, h2, h3, h4]
  by_cases h1 : 97 ≤ r
  · by_cases h2 : r ≤ 122
    · have H := Lib.hid (hB true true _ _ (by simpa using h1) (by simpa using h2) rfl rfl); clear hB
      have d1 : decide (97 ≤ r) = true := by simpa using h1
      have d2 : decide (r ≤ 122) = true := by simpa using h2
      go_enter Tryd.func56, Tryd.ntmps56
      go_wp2
      go_ret
      exact ⟨ret_bool (by rw [H.out]; rfl), rfl⟩
    · have d1 : decide (97 ≤ r) = true := by simpa using h1
      have d2 : decide (r ≤ 122) = false := by simpa using h2
      have d3 : decide (48 ≤ r) = true := by simp; omega
      have d4 : decide (r ≤ 57) = false := by simp; omega
      have H := Lib.hid (hB true false true false d1 d2 d3 d4); clear hB
      go_enter Tryd.func56, Tryd.ntmps56
      go_wp2
      go_ret
      exact ⟨ret_bool (by rw [H.out]; rfl), rfl⟩
  · have d1 : decide (97 ≤ r) = false := by simpa using h1
    by_cases h3 : 48 ≤ r
    · by_cases h4 : r ≤ 57
      · have d3 : decide (48 ≤ r) = true := by simpa using h3
        have d4 : decide (r ≤ 57) = true := by simpa using h4
        have H := Lib.hid (hB false _ true true d1 rfl d3 d4); clear hB
        go_enter Tryd.func56, Tryd.ntmps56
        go_wp2
        go_ret
        exact ⟨ret_bool (by rw [H.out]; rfl), rfl⟩
      · have d3 : decide (48 ≤ r) = true := by simpa using h3
        have d4 : decide (r ≤ 57) = false := by simpa using h4
        have H := Lib.hid (hB false _ true false d1 rfl d3 d4); clear hB
        go_enter Tryd.func56, Tryd.ntmps56
        go_wp2
        go_ret
        exact ⟨ret_bool (by rw [H.out]; rfl), rfl⟩
    · have d3 : decide (48 ≤ r) = false := by simpa using h3
      have H := Lib.hid (hB false _ false _ d1 rfl d3 rfl); clear hB
      go_enter Tryd.func56, Tryd.ntmps56
      go_wp2
      go_ret
      exact ⟨ret_bool (by rw [H.out]; rfl), rfl⟩

/-- The world behind a range over a text: one iterator more. -/
theorem below_iter (w : World) (s : ByteArray) (p : Nat) : Below w.heap.size w (w.iter s p) := by
  exact (Below.refl _ _).alloc (Nat.le_refl _) _

theorem word_no {l : List UInt8} {k : Nat} {b : UInt8} (h : l[k]? = some b) (hb : wb b = false) : wordB l = false := by
  unfold wordB
  have : l.all wb = false := by
    rw [List.all_eq_false]
    exact ⟨b, List.mem_of_getElem? h, by simp [hb]⟩
  rw [this, Bool.and_false]
theorem word_yes {l : List UInt8} (h0 : l ≠ []) (h : l.all wb = true) : wordB l = true := by
  unfold wordB
  rw [h, Bool.and_true]
  cases l with
  | nil => exact absurd rfl h0
  | cons => rfl

set_option maxHeartbeats 1000000 in
theorem consists_any (s : ByteArray) (w : World) :
    Calls Tryd.prog 55 #[.string s, .func (.func 56) #[] #[]] w fun e w' => e = .returned (.bool (wordB (bl s))) ∧ Below w.heap.size w w' := by
  go_enter Tryd.func55, Tryd.ntmps55
  go_wp2_with fail
  go_loopw [] (fun wr => ∃ pos : Nat, pos ≤ s.size ∧ wr = w.iter s pos ∧ Hid (((bl s).take pos).all wb = true)) (fun wr => s.size - wr.iterPos w.heap.size)
  case atStart => exact ⟨0, Nat.zero_le _, rfl, rfl⟩
  case round =>
    obtain ⟨pos, hle, rfl, HA⟩ := hrel
    by_cases hp : pos < s.size
    · have hg := bl_get s pos hp
      by_cases ha : (s[pos]'hp).toNat < 128
      · have hnx : ∀ ty, (Instr.next (.pointer (some ⟨w.heap.size, 0, none⟩)) true ty).run Tryd.prog (w.iter s pos) = _ := fun ty => run_next_ascii w s pos ty hp ha
        have hr := rune_byte (s[pos]'hp)
        cases hw : wb (s[pos]'hp)
        · have HW := Lib.hid (word_no hg hw)
          rw [hw] at hr
          clear hg hw
          go_wp2_with fail
          refine (of_word _ _).mono ?_
          rintro e w1 ⟨rfl, rfl⟩
          go_wp2_with fail
          go_ret
          exact ⟨ret_bool HW.out.symm, below_iter _ _ _⟩
        · have HT : Hid (((bl s).take (pos + 1)).all wb = true) := by
            show _ = true
            rw [take_bl s pos hp, List.all_append, HA.out]; simp [hw]
          rw [hw] at hr
          clear hg hw
          go_wp2_with fail
          refine (of_word _ _).mono ?_
          rintro e w1 ⟨rfl, rfl⟩
          go_wp2_with fail
          go_roundw
          case rel => exact ⟨pos + 1, hp, rfl, HT⟩
          case measure => simp; omega
      · have hnx : ∀ ty, (Instr.next (.pointer (some ⟨w.heap.size, 0, none⟩)) true ty).run Tryd.prog (w.iter s pos) = _ := fun ty => run_next_any w s pos ty hp
        have hh := rune_high s pos hp (by omega)
        have hr : runeB ((Utf8.decode s pos).1 : Int) = false := rune_not (by omega)
        have HW := Lib.hid (word_no hg (wb_high (by omega)))
        clear hg hh
        go_wp2_with fail
        refine (of_word _ _).mono ?_
        rintro e w1 ⟨rfl, rfl⟩
        go_wp2_with fail
        go_ret
        exact ⟨ret_bool HW.out.symm, below_iter _ _ _⟩
    · obtain rfl : pos = s.size := by omega
      have hnx : ∀ ty, (Instr.next (.pointer (some ⟨w.heap.size, 0, none⟩)) true ty).run Tryd.prog (w.iter s s.size) = _ := fun ty => run_next_end w s s.size ty hp
      have hall := HA.out
      rw [size_bl, List.take_length] at hall
      by_cases h0 : bl s = []
      · have HW : Hid (wordB (bl s) = false) := by show _ = false; rw [h0]; rfl
        have e2 : s.toList = [] := by rw [toList_bl]; exact h0
        clear hall HA h0
        go_wp2_with fail
        go_ret
        exact ⟨ret_bool HW.out.symm, below_iter _ _ _⟩
      · have HW := Lib.hid (word_yes h0 hall)
        have e1 : s.toList.isEmpty = false := by rw [toList_bl]; cases hq : bl s with | nil => exact absurd hq h0 | cons => rfl
        have e2 : ¬ s.toList = [] := by rw [toList_bl]; exact h0
        have e3 : (s.toList == []) = false := by rw [toList_bl]; cases hq : bl s with | nil => exact absurd hq h0 | cons => rfl
        clear hall HA h0
        go_wp2_with fail
        go_ret
        exact ⟨ret_bool HW.out.symm, below_iter _ _ _⟩

end Go.Proofs.YtmlflmlgjjjmfaaDoor
