/-
  The fixed question that every law asks first: it is answered by true.
-/
import Derived.Test.YtodapekcgbhfoaaDoorHead
namespace Go.Proofs.YtodapekcgbhfoaaDoor
open Go.RowKit

theorem chain {w w1 w2 : World} (h : Below w.heap.size w w1) (k : Below w1.heap.size w1 w2) : Below w.heap.size w w2 := h.trans (k.mono h.size)
theorem chain_alloc {w w1 w2 : World} {o : Obj} (h : Below w.heap.size w w1) (k : Below (w1.alloc o).heap.size (w1.alloc o) w2) : Below w.heap.size w w2 :=
  (h.alloc h.size o).trans (k.mono (by have := h.size; simp; omega))
theorem below_of_alloc {w1 w2 : World} {o : Obj} (k : Below (w1.alloc o).heap.size (w1.alloc o) w2) : Below w1.heap.size w1 w2 :=
  ((Below.refl _ w1).alloc (Nat.le_refl _) o).trans (k.mono (by simp))

set_option maxHeartbeats 2000000 in
set_option maxRecDepth 100000 in
theorem head_any (w : World) (ht : Tab w) : Calls Tryd.prog 9 #[] w fun e w' => e = .returned (.bool true) ∧ Below w.heap.size w w' := by
  have HT := Lib.hid ht; clear ht
  go_enter Tryd.func9, Tryd.ntmps9
  go_wp2_with fail
  refine (get70 _ HT.out).mono ?_
  rintro e w1 ⟨rfl, hb⟩
  have HT1 := Lib.hid (HT.out.below hb)
  have HB1 := Lib.hid hb
  clear hb HT
  go_wp2_with fail
  refine (get07 _ HT1.out).mono ?_
  rintro e w2 ⟨rfl, hb⟩
  have HT2 := Lib.hid (HT1.out.below hb)
  have HB2 := Lib.hid (chain HB1.out hb)
  clear hb HT1 HB1
  go_wp2_with fail
  refine (words07 _).mono ?_
  rintro e w3 ⟨A3, c3, n3, rfl, hn3, hr3, hb⟩
  have HN3 := Lib.hid hn3
  have HT3 := Lib.hid (HT2.out.below hb)
  have HB3 := Lib.hid (chain HB2.out hb)
  have HR3 := Lib.hid hr3
  clear hb hn3 hr3 HT2 HB2
  go_wp2_with fail
  refine (words_two _).mono ?_
  rintro e w4 ⟨A4, c4, n4, rfl, _, _, hb⟩
  have HT4 := Lib.hid (HT3.out.below hb)
  have HB4 := Lib.hid (chain HB3.out hb)
  have HR4 := Lib.hid (HR3.out.below hb)
  clear hb HT3 HB3 HR3
  go_wp2_with fail
  refine (lines_abc _).mono ?_
  rintro e w5 ⟨A5, c5, n5, rfl, hn5, hr5, hb⟩
  have HN5 := Lib.hid hn5
  have HT5 := Lib.hid (HT4.out.below hb)
  have HB5 := Lib.hid (chain HB4.out hb)
  have HR5 := Lib.hid (HR4.out.below hb)
  have HS5 := Lib.hid hr5
  have hrest : ((ba [99]).toList == [99]) = true := by rw [toList_bl, bl_ba]; rfl
  clear hb hn5 hr5 HT4 HB4 HR4
  go_wp2_with fail
  refine (num70 _ HT5.out).mono ?_
  rintro e w6 ⟨rfl, hb⟩
  have HT6 := Lib.hid (HT5.out.below hb)
  have HB6 := Lib.hid (chain HB5.out hb)
  have HR6 := Lib.hid (HR5.out.below hb)
  have HS6 := Lib.hid (HS5.out.below hb)
  clear hb HT5 HB5 HR5 HS5
  go_wp2_with fail
  refine (num0 _ HT6.out).mono ?_
  rintro e w7 ⟨rfl, hb⟩
  have HT7 := Lib.hid (HT6.out.below hb)
  have HB7 := Lib.hid (chain HB6.out hb)
  have HR7 := Lib.hid (HR6.out.below hb)
  have HS7 := Lib.hid (HS6.out.below hb)
  clear hb HT6 HB6 HR6 HS6
  go_wp2_with fail
  refine (num_neg _ HT7.out).mono ?_
  rintro e w8 ⟨rfl, hb⟩
  have HT8 := Lib.hid (HT7.out.below hb)
  have HB8 := Lib.hid (chain HB7.out hb)
  have HR8 := Lib.hid (HR7.out.below hb)
  have HS8 := Lib.hid (HS7.out.below hb)
  clear hb HT7 HB7 HR7 HS7
  go_wp2_with fail
  refine (num_big _ HT8.out).mono ?_
  rintro e w9 ⟨rfl, hb⟩
  have HB9 := Lib.hid (chain HB8.out hb)
  have HR9 := Lib.hid (HR8.out.below hb)
  have HS9 := Lib.hid (HS8.out.below hb)
  clear hb HT8 HB8 HR8 HS8
  go_wp2_with fail
  refine (same_any A3 (some ⟨w9.heap.size, 0, none⟩) c3 2 n3 2 [[97], [48, 55]] [[97], [48, 55]] _ (HR9.out.below ((Below.refl _ _).alloc (Nat.le_refl _) _)) (rd_two w9 [97] [48, 55]) HN3.out rfl (by rw [HN3.out]; decide) rfl).mono ?_
  rintro e w10 ⟨rfl, hb⟩
  have HB10 := Lib.hid (chain_alloc HB9.out hb)
  have HR10 := Lib.hid (HR9.out.below (below_of_alloc hb))
  have HS10 := Lib.hid (HS9.out.below (below_of_alloc hb))
  clear hb HB9 HR9 HS9
  go_wp2_with fail
  refine (join07 A3 c3 n3 _ HR10.out HN3.out).mono ?_
  rintro e w11 ⟨rfl, hb⟩
  have HB11 := Lib.hid (chain HB10.out hb)
  have HS11 := Lib.hid (HS10.out.below hb)
  clear hb HB10 HR10 HS10
  go_wp2_with fail
  refine (same_any A5 (some ⟨w11.heap.size, 0, none⟩) c5 2 n5 2 [[97, 98], []] [[97, 98], []] _ (HS11.out.below ((Below.refl _ _).alloc (Nat.le_refl _) _)) (rd_two w11 [97, 98] []) HN5.out rfl (by rw [HN5.out]; decide) rfl).mono ?_
  rintro e w12 ⟨rfl, hb⟩
  have HB12 := Lib.hid (chain_alloc HB11.out hb)
  clear hb HB11 HS11
  go_wp2_with fail
  refine (text_a (some ⟨w12.heap.size, 0, none⟩) 2 2 _ (rd_two w12 [97] []) rfl).mono ?_
  rintro e w13 ⟨rfl, hb⟩
  have HB13 := Lib.hid (chain_alloc HB12.out hb)
  clear hb HB12
  go_wp2_with fail
  go_ret
  exact ⟨rfl, HB13.out⟩

end Go.Proofs.YtodapekcgbhfoaaDoor
