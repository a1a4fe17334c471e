/-
  The law TextWords, walked.
-/
import Derived.Test.YtodapekcgbhfoaaDoorLNumbers
namespace Go.Proofs.YtodapekcgbhfoaaDoor
open Go.RowKit

theorem bulk_pieces (l : List UInt8) : bulk (pieces l) = l.length + 1 := by
  rw [← bulk_lay 32]
  unfold pieces
  rw [layL_append, layL_one, ← List.append_assoc, lay_cut]
  simp
theorem bulk_words (l : List UInt8) : bulk (wordsL l) ≤ l.length + 1 := by
  unfold wordsL
  split
  · rw [bulk_pieces]; exact Nat.le_refl _
  · simp [bulk]
theorem join_len (xs : List (List UInt8)) : (joinL xs).length ≤ bulk xs := by
  unfold joinL
  split
  · rw [List.length_dropLast, bulk_lay]; omega
  · simp

set_option maxHeartbeats 4000000 in
set_option maxRecDepth 100000 in
theorem words_in (A : Option Addr) (cA n : Nat) (xs : List (List UInt8)) (s : ByteArray) (w : World) (ht : Tab w) (hx : Rd w A xs) (ln : n = xs.length) (hs : s.size ≤ 3000) :
    Calls Tryd.prog 5 #[.slice A n cA, .string s] w fun e w' => e = .returned (.bool true) ∧ Below w.heap.size w w' := by
  have HT := Lib.hid ht; clear ht
  have HX := Lib.hid hx; clear hx
  have LX := Lib.hid ln; clear ln
  have ds : decide (3000 < (s.size : Int)) = false := decide_eq_false (by omega)
  go_enter Tryd.func5, Tryd.ntmps5
  go_wp2_with fail
  refine (head_any _ HT.out).mono ?_
  rintro e w1 ⟨rfl, hb⟩
  have HX1 := Lib.hid (HX.out.below hb)
  have HB1 := Lib.hid hb
  clear hb HT HX
  go_wp2_with fail
  refine (great_any A cA n xs _ HX1.out LX.out).mono ?_
  rintro e w2 ⟨g, rfl, rfl, hg⟩
  cases g
  · have hbulk := hg rfl
    clear hg
    go_wp2_with fail
    refine (join_any A cA n xs _ HX1.out LX.out (by omega)).mono ?_
    rintro e w3 ⟨rfl, hb⟩
    have HX3 := Lib.hid (HX1.out.below hb)
    have HB3 := Lib.hid (chain HB1.out hb)
    clear hb HX1 HB1
    go_wp2_with fail
    refine (words_any (ba (joinL xs)) _ (by rw [ba_size]; have := join_len xs; omega)).mono ?_
    rintro e w4 ⟨A4, c4, n4, rfl, hn4, hr4, hb⟩
    rw [bl_ba] at hn4 hr4 ⊢
    have HX4 := Lib.hid (HX3.out.below hb)
    have HB4 := Lib.hid (chain HB3.out hb)
    have HR4 := Lib.hid hr4
    have HN4 := Lib.hid hn4
    clear hb HX3 HB3 hr4 hn4
    -- what comes of the other text
    have hbs : s.size ≤ 100000 := by omega
    have HW : Hid (bulk (wordsL (bl s)) ≤ 100000) := by
      show _ ≤ _
      have := bulk_words (bl s); rw [← size_bl] at this; omega
    cases hw : wordsB xs
    · have e0 := join_not hw
      rw [e0, ok_nil]
      have f1 : (ba []).toList = [] := by rw [toList_bl, bl_ba]
      obtain ⟨tb, HTB⟩ : ∃ tb, Hid (tb = ba []) := ⟨_, rfl⟩
      rw [← HTB.out] at f1 ⊢
      clear e0 hw HR4 HN4 HX4
      go_wp2_with fail
      refine (words_any s _ hbs).mono ?_
      rintro e w5 ⟨A5, c5, n5, rfl, hn5, hr5, hb⟩
      have HB5 := Lib.hid (chain HB4.out hb)
      have HR5 := Lib.hid hr5
      have HN5 := Lib.hid hn5
      clear hb hr5 hn5 HB4
      cases hk : okW (bl s)
      · have hn0 : n5 = 0 := by rw [HN5.out, words_not hk]; rfl
        subst hn0
        clear hk HR5 HN5
        go_wp2_with fail
        go_ret
        exact ⟨rfl, HB5.out⟩
      · have HJ := Lib.hid (join_words hk)
        have hl : 1 ≤ n5 := by rw [HN5.out]; exact words_len hk
        have d1 : decide (1 ≤ (n5 : Int)) = true := decide_eq_true (by omega)
        have d2 : decide (1 ≤ n5) = true := decide_eq_true hl
        clear hk
        go_wp2_with fail
        refine (join_any A5 c5 n5 _ _ HR5.out HN5.out HW.out).mono ?_
        rintro e w6 ⟨rfl, hb⟩
        have HB6 := Lib.hid (chain HB5.out hb)
        have hq : ((ba (joinL (wordsL (bl s)))).toList == s.toList) = true := text_eq (by rw [bl_ba]; exact HJ.out)
        clear hb HR5
        go_wp2_with fail
        go_ret
        exact ⟨rfl, HB6.out⟩
    · have e0 := join_ne hw
      rw [ok_join hw]
      have f1 := ba_ne e0
      have f2 := ba_ne' e0
      have f3 := ba_ne2 e0
      have e1 := words_join hw
      have HE := Lib.hid e1
      obtain ⟨t, HTt⟩ : ∃ t, Hid (t = joinL xs) := ⟨_, rfl⟩
      rw [← HTt.out] at f1 f2 f3 ⊢
      clear e0 e1 hw
      go_wp2_with fail
      refine (same_any A4 A c4 cA n4 n _ _ _ HR4.out HX4.out HN4.out LX.out (by rw [HN4.out, HE.out]; have := bulk_len xs; omega) HE.out).mono ?_
      rintro e w5 ⟨rfl, hb⟩
      have HB5 := Lib.hid (chain HB4.out hb)
      clear hb HR4 HX4 HB4
      go_wp2_with fail
      refine (words_any s _ hbs).mono ?_
      rintro e w6 ⟨A5, c5, n5, rfl, hn5, hr5, hb⟩
      have HB6 := Lib.hid (chain HB5.out hb)
      have HR5 := Lib.hid hr5
      have HN5 := Lib.hid hn5
      clear hb hr5 hn5 HB5
      cases hk : okW (bl s)
      · have hn0 : n5 = 0 := by rw [HN5.out, words_not hk]; rfl
        subst hn0
        clear hk HR5 HN5
        go_wp2_with fail
        go_ret
        exact ⟨rfl, HB6.out⟩
      · have HJ := Lib.hid (join_words hk)
        have hl : 1 ≤ n5 := by rw [HN5.out]; exact words_len hk
        have d1 : decide (1 ≤ (n5 : Int)) = true := decide_eq_true (by omega)
        have d2 : decide (1 ≤ n5) = true := decide_eq_true hl
        clear hk
        go_wp2_with fail
        refine (join_any A5 c5 n5 _ _ HR5.out HN5.out HW.out).mono ?_
        rintro e w7 ⟨rfl, hb⟩
        have HB7 := Lib.hid (chain HB6.out hb)
        have hq : ((ba (joinL (wordsL (bl s)))).toList == s.toList) = true := text_eq (by rw [bl_ba]; exact HJ.out)
        clear hb HR5
        go_wp2_with fail
        go_ret
        exact ⟨rfl, HB7.out⟩
  · clear hg
    go_wp2_with fail
    go_ret
    exact ⟨rfl, HB1.out⟩

set_option maxHeartbeats 1000000 in
theorem words_walk (A : Option Addr) (cA n : Nat) (xs : List (List UInt8)) (s : ByteArray) (w : World) (ht : Tab w) (hx : Rd w A xs) (ln : n = xs.length) (_ : n ≤ cA) :
    Calls Tryd.prog 5 #[.slice A n cA, .string s] w fun e w' => e = .returned (.bool true) ∧ Below w.heap.size w w' := by
  by_cases hs : s.size ≤ 3000
  · exact words_in A cA n xs s w ht hx ln hs
  · have ds : decide (3000 < (s.size : Int)) = true := decide_eq_true (by omega)
    have HT := Lib.hid ht
    clear ht hs hx ln
    go_enter Tryd.func5, Tryd.ntmps5
    go_wp2_with fail
    refine (head_any _ HT.out).mono ?_
    rintro e w1 ⟨rfl, hb⟩
    have HB1 := Lib.hid hb
    clear hb
    go_wp2_with fail
    go_ret
    exact ⟨rfl, HB1.out⟩

end Go.Proofs.YtodapekcgbhfoaaDoor
