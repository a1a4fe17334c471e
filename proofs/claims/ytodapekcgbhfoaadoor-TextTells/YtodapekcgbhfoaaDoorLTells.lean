/-
  The law TextTells, walked.
-/
import Derived.Test.YtodapekcgbhfoaaDoorRef3
namespace Go.Proofs.YtodapekcgbhfoaaDoor
open Go.RowKit

/-- What the law keeps in memory, from call to call. -/
def St (A A3 A4 A5 A6 : Option Addr) (xs W P : List (List UInt8)) (w0 w : World) : Prop :=
  Tab w ∧ Rd w A xs ∧ Rd w A3 W ∧ Rd w A4 W ∧ Rd w A5 P ∧ Rd w A6 P ∧ Below w0.heap.size w0 w
section
variable {A A3 A4 A5 A6 : Option Addr} {xs W P : List (List UInt8)} {w0 w w' : World}
theorem St.tab (h : St A A3 A4 A5 A6 xs W P w0 w) : Tab w := h.1
theorem St.row (h : St A A3 A4 A5 A6 xs W P w0 w) : Rd w A xs := h.2.1
theorem St.r3 (h : St A A3 A4 A5 A6 xs W P w0 w) : Rd w A3 W := h.2.2.1
theorem St.r4 (h : St A A3 A4 A5 A6 xs W P w0 w) : Rd w A4 W := h.2.2.2.1
theorem St.r5 (h : St A A3 A4 A5 A6 xs W P w0 w) : Rd w A5 P := h.2.2.2.2.1
theorem St.r6 (h : St A A3 A4 A5 A6 xs W P w0 w) : Rd w A6 P := h.2.2.2.2.2.1
theorem St.bel (h : St A A3 A4 A5 A6 xs W P w0 w) : Below w0.heap.size w0 w := h.2.2.2.2.2.2
theorem St.next (h : St A A3 A4 A5 A6 xs W P w0 w) (hb : Below w.heap.size w w') : St A A3 A4 A5 A6 xs W P w0 w' :=
  ⟨h.tab.below hb, h.row.below hb, h.r3.below hb, h.r4.below hb, h.r5.below hb, h.r6.below hb, chain h.bel hb⟩
end

theorem lines_len (c : UInt8) (s : ByteArray) : (cutF c (bl s)).1.length ≤ s.size := by
  rw [cut_count, size_bl]; exact List.count_le_length
theorem words_len_le (s : ByteArray) : (wordsL (bl s)).length ≤ s.size + 1 := by
  unfold wordsL
  split
  · rw [size_bl]; exact pieces_len _
  · simp

set_option maxHeartbeats 4000000 in
set_option maxRecDepth 100000 in
theorem tells_in (n : Int) (s : ByteArray) (A : Option Addr) (cA m : Nat) (xs : List (List UInt8)) (w : World) (ht : Tab w) (hx : Rd w A xs) (ln : m = xs.length) (hs : s.size ≤ 3000) :
    Calls Tryd.prog 3 #[.int .i64 n, .string s, .slice A m cA] w fun e w' => e = .returned (.bool true) ∧ Below w.heap.size w w' := by
  have HT := Lib.hid ht; clear ht
  have HX := Lib.hid hx; clear hx
  have LX := Lib.hid ln; clear ln
  have ds : decide (3000 < (s.size : Int)) = false := decide_eq_false (by omega)
  have hss : s.size ≤ 100000 := by omega
  go_enter Tryd.func3, Tryd.ntmps3
  go_wp2_with fail
  refine (head_any _ HT.out).mono ?_
  rintro e w1 ⟨rfl, hb⟩
  have HT1 := Lib.hid (HT.out.below hb)
  have HX1 := Lib.hid (HX.out.below hb)
  have HB1 := Lib.hid hb
  clear hb HT HX
  go_wp2_with fail
  refine (great_any A cA m xs _ HX1.out LX.out).mono ?_
  rintro e w2 ⟨g, rfl, rfl, hg⟩
  cases g
  · have hbulk := hg rfl
    clear hg
    go_wp2_with fail
    refine (get_any s _ HT1.out).mono ?_
    rintro e w2 ⟨rfl, hb⟩
    have HT2 := Lib.hid (HT1.out.below hb)
    have HX2 := Lib.hid (HX1.out.below hb)
    have HB2 := Lib.hid (chain HB1.out hb)
    clear hb HT1 HX1 HB1
    go_wp2_with fail
    refine (rget_any s _).mono ?_
    rintro e w3 ⟨rfl, rfl⟩
    obtain ⟨gn, HGN⟩ : ∃ gn, Hid (gn = getN (bl s)) := ⟨_, rfl⟩
    obtain ⟨gb, HGB⟩ : ∃ gb, Hid (gb = getB (bl s)) := ⟨_, rfl⟩
    rw [← HGN.out, ← HGB.out]
    go_wp2_with fail
    refine (words_any s _ hss).mono ?_
    rintro e w3 ⟨A3, c3, n3, rfl, hn3, hr3, hb⟩
    have HN3 := Lib.hid hn3
    have HR3 := Lib.hid hr3
    have HT3 := Lib.hid (HT2.out.below hb)
    have HX3 := Lib.hid (HX2.out.below hb)
    have HB3 := Lib.hid (chain HB2.out hb)
    clear hb hn3 hr3 HT2 HX2 HB2
    go_wp2_with fail
    refine (rwords_any s _ hss).mono ?_
    rintro e w4 ⟨A4, c4, n4, rfl, hn4, hr4, hb⟩
    have HN4 := Lib.hid hn4
    have HR4 := Lib.hid hr4
    have HS4 := Lib.hid (HR3.out.below hb)
    have HT4 := Lib.hid (HT3.out.below hb)
    have HX4 := Lib.hid (HX3.out.below hb)
    have HB4 := Lib.hid (chain HB3.out hb)
    clear hb hn4 hr4 HT3 HX3 HB3 HR3
    obtain ⟨wo, HWO⟩ : ∃ wo, Hid (wo = okW (bl s)) := ⟨_, rfl⟩
    rw [← HWO.out]
    go_wp2_with fail
    refine (lines_any s _ hss).mono ?_
    rintro e w5 ⟨A5, c5, n5, rfl, hn5, hr5, hb⟩
    have HN5 := Lib.hid hn5
    have HR5 := Lib.hid hr5
    have HS5 := Lib.hid (HS4.out.below hb)
    have HU5 := Lib.hid (HR4.out.below hb)
    have HT5 := Lib.hid (HT4.out.below hb)
    have HX5 := Lib.hid (HX4.out.below hb)
    have HB5 := Lib.hid (chain HB4.out hb)
    clear hb hn5 hr5 HT4 HX4 HB4 HR4 HS4
    go_wp2_with fail
    refine (rlines_any s _ hss).mono ?_
    rintro e w6 ⟨A6, c6, n6, rfl, hn6, hr6, hb⟩
    have HN6 := Lib.hid hn6
    have ST : Hid (St A A3 A4 A5 A6 xs (wordsL (bl s)) (cutF 10 (bl s)).1 w w6) := ⟨HT5.out.below hb, HX5.out.below hb, HS5.out.below hb, HU5.out.below hb, HR5.out.below hb, hr6, chain HB5.out hb⟩
    clear hb hn6 hr6 HT5 HX5 HB5 HR5 HS5 HU5
    obtain ⟨E, HE⟩ : ∃ E, Hid (E = ba (cutF 10 (bl s)).2) := ⟨_, rfl⟩
    rw [← HE.out]
    have h3 : n3 ≤ 1000000 := by rw [HN3.out]; have := words_len_le s; omega
    have h5 : n5 ≤ 1000000 := by rw [HN5.out]; have := lines_len 10 s; omega
    have t1 : (gn == gn) = true := by simp
    have t2 : (gb == gb) = true := by simp
    have t3 : (wo == wo) = true := by simp
    have t4 : (E.toList == E.toList) = true := by simp
    have hn9 : bulk xs ≤ 100000 := by omega
    go_wp2_with fail
    refine (number_any n _ ST.out.tab).mono ?_
    rintro e w7 ⟨rfl, hb⟩
    have ST7 := Lib.hid (ST.out.next hb)
    clear hb ST
    go_wp2_with fail
    refine (rnumber_any n _).mono ?_
    rintro e w8 ⟨rfl, hb⟩
    have ST8 := Lib.hid (ST7.out.next hb)
    clear hb ST7
    have t5 : ((ba (numL n)).toList == (ba (numL n)).toList) = true := by simp
    go_wp2_with fail
    refine (same_any A3 A4 c3 c4 n3 n4 _ _ _ ST8.out.r3 ST8.out.r4 HN3.out HN4.out h3 rfl).mono ?_
    rintro e w9 ⟨rfl, hb⟩
    have ST9 := Lib.hid (ST8.out.next hb)
    clear hb ST8
    go_wp2_with fail
    refine (same_any A5 A6 c5 c6 n5 n6 _ _ _ ST9.out.r5 ST9.out.r6 HN5.out HN6.out h5 rfl).mono ?_
    rintro e w10 ⟨rfl, hb⟩
    have ST10 := Lib.hid (ST9.out.next hb)
    clear hb ST9
    go_wp2_with fail
    refine (join_any A cA m xs _ ST10.out.row LX.out hn9).mono ?_
    rintro e w11 ⟨rfl, hb⟩
    have ST11 := Lib.hid (ST10.out.next hb)
    clear hb ST10
    go_wp2_with fail
    refine (rjoin_any A cA m xs _ ST11.out.row LX.out hn9).mono ?_
    rintro e w12 ⟨rfl, rfl⟩
    have t6 : ((ba (joinL xs)).toList == (ba (joinL xs)).toList) = true := by simp
    go_wp2_with fail
    refine (text_any A cA m xs _ ST11.out.row LX.out hn9).mono ?_
    rintro e w12 ⟨rfl, hb⟩
    have ST12 := Lib.hid (ST11.out.next hb)
    clear hb ST11
    go_wp2_with fail
    refine (rtext_any A cA m xs _ ST12.out.row LX.out hn9).mono ?_
    rintro e w13 ⟨rfl, rfl⟩
    have t7 : ((ba (layL 10 xs)).toList == (ba (layL 10 xs)).toList) = true := by simp
    go_wp2_with fail
    go_ret
    exact ⟨rfl, ST12.out.bel⟩
  · clear hg
    go_wp2_with fail
    go_ret
    exact ⟨rfl, HB1.out⟩

set_option maxHeartbeats 1000000 in
theorem tells_walk (n : Int) (s : ByteArray) (A : Option Addr) (cA m : Nat) (xs : List (List UInt8)) (w : World) (ht : Tab w) (hx : Rd w A xs) (ln : m = xs.length) (_ : m ≤ cA) :
    Calls Tryd.prog 3 #[.int .i64 n, .string s, .slice A m cA] w fun e w' => e = .returned (.bool true) ∧ Below w.heap.size w w' := by
  by_cases hs : s.size ≤ 3000
  · exact tells_in n s A cA m xs w ht hx ln hs
  · have ds : decide (3000 < (s.size : Int)) = true := decide_eq_true (by omega)
    have HT := Lib.hid ht
    clear ht hs hx ln
    go_enter Tryd.func3, Tryd.ntmps3
    go_wp2_with fail
    refine (head_any _ HT.out).mono ?_
    rintro e w1 ⟨rfl, hb⟩
    have HB1 := Lib.hid hb
    clear hb
    go_wp2_with fail
    go_ret
    exact ⟨rfl, HB1.out⟩

end Go.Proofs.YtodapekcgbhfoaaDoor
