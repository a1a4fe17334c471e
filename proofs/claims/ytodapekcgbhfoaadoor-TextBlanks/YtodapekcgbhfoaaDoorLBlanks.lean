/-
  The law TextBlanks, walked.
-/
import Derived.Test.YtodapekcgbhfoaaDoorLLines
import Derived.Deep.RegionHeld3
namespace Go.Proofs.YtodapekcgbhfoaaDoor
open Go.RowKit

theorem bl_sp : bl ⟨#[32]⟩ = [32] := rfl
theorem bl_sp2 : bl ⟨#[32, 32]⟩ = [32, 32] := rfl
theorem sp_size : (⟨#[32]⟩ : ByteArray).size = 1 := rfl
theorem sp2_size : (⟨#[32, 32]⟩ : ByteArray).size = 2 := rfl
theorem ok_front (l : List UInt8) : okW (32 :: l) = false := by
  have := ok_mid [] l
  rw [List.nil_append] at this
  rw [this]; rfl
theorem ok_back (l : List UInt8) : okW (l ++ [32]) = false := by
  have := ok_mid l []
  rw [this]; simp [ok_nil]
theorem ok_twice (a b : List UInt8) : okW (a ++ [32, 32] ++ b) = false := by
  have e : a ++ [32, 32] ++ b = a ++ 32 :: (32 :: b) := by simp
  rw [e, ok_mid, ok_front]; simp

set_option maxHeartbeats 1000000 in
set_option maxRecDepth 100000 in
theorem blanks_in (A : Option Addr) (cA n k : Nat) (xs : List (List UInt8)) (a : UInt8) (w : World) (ht : Tab w) (hx : Rd w A xs) (ln : n = xs.length) (hcap : n ≤ cA) (hn : 1 ≤ n) (hk : k = a.toNat % n) :
    Calls Tryd.prog 7 #[.slice A n cA, .int .u8 (a.toNat : Int)] w fun e w' => e = .returned (.bool true) ∧ Below w.heap.size w w' := by
  have HT := Lib.hid ht; clear ht
  have HX := Lib.hid hx; clear hx
  have LX := Lib.hid ln; clear ln
  have hkn : k < n := by rw [hk]; exact Nat.mod_lt _ hn
  have hmod : (a.toNat : Int) % (n : Int) = (k : Int) := by rw [hk]; omega
  have hmod2 : a.toNat % n = k := hk.symm
  have HK := Lib.hid hmod
  have HK2 := Lib.hid hmod2
  clear hk hmod hmod2
  have hz : ((n : Int) == 0) = false := beq_eq_false_iff_ne.2 (by omega)
  go_enter Tryd.func7, Tryd.ntmps7
  go_wp2_with fail
  refine (head_any _ HT.out).mono ?_
  rintro e w1 ⟨rfl, hb⟩
  have HX1 := Lib.hid (HX.out.below hb)
  have HB1 := Lib.hid hb
  clear hb HT HX
  go_wp2_with fail
  refine (great_any A cA n xs _ HX1.out LX.out).mono ?_
  rintro e w2 ⟨g, rfl, rfl, hg⟩
  cases g
  · have hbulk := hg rfl
    clear hg
    have hnn : n ≤ 9000 := by have := bulk_len xs; rw [LX.out]; omega
    go_wp2_with fail
    refine (join_any A cA n xs _ HX1.out LX.out (by omega)).mono ?_
    rintro e w3 ⟨rfl, hb⟩
    have HX3 := Lib.hid (HX1.out.below hb)
    have HB3 := Lib.hid (chain HB1.out hb)
    clear hb HX1 HB1
    cases hw : wordsB xs
    · rw [join_not hw]
      have f1 : (ba []).toList = [] := by rw [toList_bl, bl_ba]
      obtain ⟨tb, HTB⟩ : ∃ tb, Hid (tb = ba []) := ⟨_, rfl⟩
      rw [← HTB.out] at f1 ⊢
      clear hw
      go_wp2_with fail
      go_ret
      exact ⟨rfl, HB3.out⟩
    · have e0 := join_ne hw
      have f1 := ba_ne e0
      have f2 := ba_ne' e0
      have f3 := ba_ne2 e0
      have HOK := Lib.hid (ok_join hw)
      have HPJ := Lib.hid (pieces_join hw)
      obtain ⟨sb, hsb⟩ : ∃ sb, sb = ba (joinL xs) := ⟨_, rfl⟩
      have HSB : Hid (bl sb = joinL xs) := by show _ = _; rw [hsb, bl_ba]
      have hss : sb.size ≤ 9000 := by rw [hsb, ba_size]; have := join_len xs; omega
      rw [← hsb] at f1 f2 f3 ⊢
      clear e0 hw hsb
      go_wp2_with fail
      refine (words_any ((⟨#[32]⟩ : ByteArray) ++ sb) _ (by rw [ByteArray.size_append, sp_size]; omega)).mono ?_
      rintro e w4 ⟨A4, c4, n4, rfl, _, _, hb⟩
      have q4 : okW (bl ((⟨#[32]⟩ : ByteArray) ++ sb)) = false := by rw [bl_add, HSB.out, bl_sp, List.singleton_append, ok_front]
      rw [q4]
      have HX4 := Lib.hid (HX3.out.below hb)
      have HB4 := Lib.hid (chain HB3.out hb)
      clear hb q4 HX3 HB3
      go_wp2_with fail
      refine (words_any (sb ++ (⟨#[32]⟩ : ByteArray)) _ (by rw [ByteArray.size_append, sp_size]; omega)).mono ?_
      rintro e w5 ⟨A5, c5, n5, rfl, _, _, hb⟩
      have q5 : okW (bl (sb ++ (⟨#[32]⟩ : ByteArray))) = false := by rw [bl_add, HSB.out, bl_sp, ok_back]
      rw [q5]
      have HX5 := Lib.hid (HX4.out.below hb)
      have HB5 := Lib.hid (chain HB4.out hb)
      clear hb q5 HX4 HB4
      have ha : a.toNat ≤ 255 := by have := a.toNat_lt; omega
      have hmod := HK.out
      have hmod2 := HK2.out
      by_cases k0 : 0 < k
      · have dk : decide (0 < (k : Int)) = true := decide_eq_true (by omega)
        have dk2 : decide (0 < k) = true := decide_eq_true k0
        go_wp2_with fail
        rw [HK.out]
        have HXd : Hid (Rd w5.drew A xs) := HX5.out.below (Below.drew (Below.refl _ _))
        have HBd : Hid (Below w.heap.size w w5.drew) := HB5.out.drew
        have ga : ¬ cA = k := by omega
        have DA : Hid (∀ w', Rd w' A xs → Rd w' (A.map (·.add k)) (xs.drop k)) := fun w' h => by have := h.drop (k := k) (cap := cA) (by rw [← LX.out]; exact hcap); rwa [if_neg ga] at this
        have p0 : (0 : Int) ≤ (k : Int) := Int.natCast_nonneg _
        have p1 : (k : Int) ≤ (n : Int) := by omega
        have p2 : k ≤ cA := by omega
        have p3 : k ≤ n := by omega
        clear hmod hmod2 HX5 HB5 HK HK2 dk dk2 ha
        have tok1 : True := trivial
        go_region_held3 (fun _ => True) (exact trivial) (first
          | (go_at_call 20; have _t := tok1; clear tok1; refine (join_any _ _ _ (xs.take k) _ (by exact HXd.out.take k) (by rw [List.length_take, ← LX.out]; omega) (by have := bulk_take xs k; omega)).mono ?_; rintro e w6 ⟨rfl, hb⟩; have HX7 := Lib.hid (HXd.out.below hb); have HB7 := Lib.hid (chain HBd.out hb); clear hb HXd HBd; obtain ⟨j1, hj1⟩ : ∃ j, j = ba (joinL (xs.take k)) := ⟨_, rfl⟩; rw [← hj1]; have hs1 : j1.size ≤ 9000 := (by rw [hj1, ba_size]; have q1 := join_len (xs.take k); have q2 := bulk_take xs k; omega); have hc1 : ¬ 9223372036854775807 < j1.size + 2 := (by omega); clear hj1; have tok2 : True := trivial)
          | (go_at_call 20; have _t := tok2; clear tok2; refine (join_any _ _ _ (xs.drop k) _ (by exact DA.out _ HX7.out) (by rw [List.length_drop, ← LX.out]) (by have := bulk_drop xs k; omega)).mono ?_; rintro e w7 ⟨rfl, hb⟩; have HX8 := Lib.hid (HX7.out.below hb); have HB8 := Lib.hid (chain HB7.out hb); clear hb HX7 HB7; obtain ⟨j2, hj2⟩ : ∃ j, j = ba (joinL (xs.drop k)) := ⟨_, rfl⟩; rw [← hj2]; have hs2 : j2.size ≤ 9000 := (by rw [hj2, ba_size]; have q1 := join_len (xs.drop k); have q2 := bulk_drop xs k; omega); have hc2 : ¬ 9223372036854775807 < j1.size + 2 + j2.size := (by omega); clear hj2; have tok3 : True := trivial)
          | (go_at_call 13; have _t := tok3; clear tok3; refine (words_any _ _ (by rw [ByteArray.size_append, ByteArray.size_append, sp2_size]; omega)).mono ?_; rintro e w8 ⟨A8, c8, n8, rfl, _, _, hb⟩; have q8 : okW (bl (j1 ++ (⟨#[32, 32]⟩ : ByteArray) ++ j2)) = false := (by rw [bl_add, bl_add, bl_sp2, ok_twice]); rw [q8]; have HX6 := Lib.hid (HX8.out.below hb); have HB6 := Lib.hid (chain HB8.out hb); clear hb q8 HX8 HB8 hc1 hc2)
          | fail)
        go_wp2_with fail
        refine (words_any (sb ++ (⟨#[32]⟩ : ByteArray) ++ sb) _ (by rw [ByteArray.size_append, ByteArray.size_append, sp_size]; omega)).mono ?_
        rintro e w7 ⟨A7, c7, n7, rfl, hn7, hr7, hb⟩
        have hx7 : bl (sb ++ (⟨#[32]⟩ : ByteArray) ++ sb) = joinL xs ++ 32 :: joinL xs := by rw [bl_add, bl_add, HSB.out, bl_sp, List.append_assoc, List.singleton_append]
        have ok7 : okW (joinL xs ++ 32 :: joinL xs) = true := by rw [ok_mid, HOK.out]; rfl
        have ww7 : wordsL (joinL xs ++ 32 :: joinL xs) = xs ++ xs := by rw [words_yes ok7, pieces_mid, HPJ.out]
        rw [hx7, ww7] at hn7 hr7
        rw [hx7, ok7]
        have HX7 := Lib.hid (HX6.out.below hb)
        have HB7 := Lib.hid (chain HB6.out hb)
        have HR7 := Lib.hid hr7
        have HN7 := Lib.hid hn7
        clear hb hn7 hr7 hx7 ok7 ww7 HX6 HB6
        have hal := (Below.refl w7.heap.size w7).alloc (Nat.le_refl _) (.cells #[] 9)
        obtain ⟨v8, w8, run8, own8, b8⟩ := append_run (own_empty w7) A cA (HX7.out.below hal) LX.out (by omega) (by simp)
        rw [Nat.zero_add, List.nil_append] at own8
        have b78 : Below w7.heap.size w7 w8 := hal.trans b8
        obtain ⟨v9, w9, run9, own9, b9⟩ := append_run own8 A cA (HX7.out.below b78) LX.out (by omega) b78.size
        have b79 : Below w7.heap.size w7 w9 := b78.trans b9
        obtain ⟨A9, c9, rfl, hn9, hr9⟩ := own_row own9
        have HR9 := Lib.hid hr9
        have HN9 := Lib.hid hn9
        have HS9 := Lib.hid (HR7.out.below b79)
        have HB9 := Lib.hid (chain HB7.out b79)
        have RUN8 := Lib.hid run8
        have RUN9 := Lib.hid run9
        clear hal own8 b8 b78 own9 b9 b79 hr9 hn9 HX7 HR7 HB7 run8 run9
        go_wp2_with (first
          | (at_builtin; refine wpList_append_run (by first | (go_simp; done) | (simp [Region.wanted, yielded]; done)) (.tmp 88) (.tmp 89) rfl rfl rfl RUN8.out ?_; clear RUN8)
          | (at_builtin; refine wpList_append_run (by first | (go_simp; done) | (simp [Region.wanted, yielded]; done)) (.tmp 90) (.tmp 91) rfl rfl rfl RUN9.out ?_; clear RUN9))
        refine (same_any A7 A9 c7 c9 n7 (n + n) _ _ _ HS9.out HR9.out HN7.out HN9.out (by rw [HN7.out, List.length_append, ← LX.out]; omega) rfl).mono ?_
        rintro e w10 ⟨rfl, hb⟩
        have HB10 := Lib.hid (chain HB9.out hb)
        clear hb
        go_wp2_with fail
        go_ret
        exact ⟨rfl, HB10.out⟩
      · have dk : decide (0 < (k : Int)) = false := decide_eq_false (by omega)
        have dk2 : decide (0 < k) = false := decide_eq_false k0
        have HX6 := Lib.hid HX5.out
        have HB6 := Lib.hid HB5.out
        clear HX5 HB5
        go_wp2_with fail
        refine (words_any (sb ++ (⟨#[32]⟩ : ByteArray) ++ sb) _ (by rw [ByteArray.size_append, ByteArray.size_append, sp_size]; omega)).mono ?_
        rintro e w7 ⟨A7, c7, n7, rfl, hn7, hr7, hb⟩
        have hx7 : bl (sb ++ (⟨#[32]⟩ : ByteArray) ++ sb) = joinL xs ++ 32 :: joinL xs := by rw [bl_add, bl_add, HSB.out, bl_sp, List.append_assoc, List.singleton_append]
        have ok7 : okW (joinL xs ++ 32 :: joinL xs) = true := by rw [ok_mid, HOK.out]; rfl
        have ww7 : wordsL (joinL xs ++ 32 :: joinL xs) = xs ++ xs := by rw [words_yes ok7, pieces_mid, HPJ.out]
        rw [hx7, ww7] at hn7 hr7
        rw [hx7, ok7]
        have HX7 := Lib.hid (HX6.out.below hb)
        have HB7 := Lib.hid (chain HB6.out hb)
        have HR7 := Lib.hid hr7
        have HN7 := Lib.hid hn7
        clear hb hn7 hr7 hx7 ok7 ww7 HX6 HB6
        have hal := (Below.refl w7.heap.size w7).alloc (Nat.le_refl _) (.cells #[] 9)
        obtain ⟨v8, w8, run8, own8, b8⟩ := append_run (own_empty w7) A cA (HX7.out.below hal) LX.out (by omega) (by simp)
        rw [Nat.zero_add, List.nil_append] at own8
        have b78 : Below w7.heap.size w7 w8 := hal.trans b8
        obtain ⟨v9, w9, run9, own9, b9⟩ := append_run own8 A cA (HX7.out.below b78) LX.out (by omega) b78.size
        have b79 : Below w7.heap.size w7 w9 := b78.trans b9
        obtain ⟨A9, c9, rfl, hn9, hr9⟩ := own_row own9
        have HR9 := Lib.hid hr9
        have HN9 := Lib.hid hn9
        have HS9 := Lib.hid (HR7.out.below b79)
        have HB9 := Lib.hid (chain HB7.out b79)
        have RUN8 := Lib.hid run8
        have RUN9 := Lib.hid run9
        clear hal own8 b8 b78 own9 b9 b79 hr9 hn9 HX7 HR7 HB7 run8 run9
        go_wp2_with (first
          | (at_builtin; refine wpList_append_run (by first | (go_simp; done) | (simp [Region.wanted, yielded]; done)) (.tmp 88) (.tmp 89) rfl rfl rfl RUN8.out ?_; clear RUN8)
          | (at_builtin; refine wpList_append_run (by first | (go_simp; done) | (simp [Region.wanted, yielded]; done)) (.tmp 90) (.tmp 91) rfl rfl rfl RUN9.out ?_; clear RUN9))
        refine (same_any A7 A9 c7 c9 n7 (n + n) _ _ _ HS9.out HR9.out HN7.out HN9.out (by rw [HN7.out, List.length_append, ← LX.out]; omega) rfl).mono ?_
        rintro e w10 ⟨rfl, hb⟩
        have HB10 := Lib.hid (chain HB9.out hb)
        clear hb
        go_wp2_with fail
        go_ret
        exact ⟨rfl, HB10.out⟩
  · clear hg
    go_wp2_with fail
    go_ret
    exact ⟨rfl, HB1.out⟩

set_option maxHeartbeats 1000000 in
theorem blanks_walk (A : Option Addr) (cA n : Nat) (xs : List (List UInt8)) (a : UInt8) (w : World) (ht : Tab w) (hx : Rd w A xs) (ln : n = xs.length) (hcap : n ≤ cA) :
    Calls Tryd.prog 7 #[.slice A n cA, .int .u8 (a.toNat : Int)] w fun e w' => e = .returned (.bool true) ∧ Below w.heap.size w w' := by
  by_cases hn : 1 ≤ n
  · exact blanks_in A cA n (a.toNat % n) xs a w ht hx ln hcap hn rfl
  · obtain rfl : n = 0 := by omega
    have HT := Lib.hid ht
    have HX := Lib.hid hx
    have LX := Lib.hid ln
    clear ht hx ln hcap hn
    go_enter Tryd.func7, Tryd.ntmps7
    go_wp2_with fail
    refine (head_any _ HT.out).mono ?_
    rintro e w1 ⟨rfl, hb⟩
    have HX1 := Lib.hid (HX.out.below hb)
    have HB1 := Lib.hid hb
    clear hb
    go_wp2_with fail
    refine (great_any A cA 0 xs _ HX1.out LX.out).mono ?_
    rintro e w2 ⟨g, rfl, rfl, hg⟩
    clear hg
    cases g
    all_goals
      go_wp2_with fail
      go_ret
      exact ⟨rfl, HB1.out⟩

end Go.Proofs.YtodapekcgbhfoaaDoor
