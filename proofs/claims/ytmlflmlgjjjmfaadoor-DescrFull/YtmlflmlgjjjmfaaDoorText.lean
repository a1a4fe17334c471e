/-
  What Words, Lines, Join, Text, Number and Get of package text answer.
-/
import Derived.Test.YtmlflmlgjjjmfaaDoorCut
import Derived.Test.YtmlflmlgjjjmfaaDoorBuild
namespace Go.Proofs.YtmlflmlgjjjmfaaDoor
open Go.RowKit

theorem getD_get {xs : List (List UInt8)} {k : Nat} (h : k < xs.length) : xs[k]? = some (xs.getD k []) := by
  rw [List.getElem?_eq_getElem h]; simp [List.getD_eq_getElem?_getD, h]
theorem take_getD {xs : List (List UInt8)} {k : Nat} (h : k < xs.length) : xs.take (k + 1) = xs.take k ++ [xs.getD k []] := by
  rw [List.take_succ_eq_append_getElem h]; simp [List.getD_eq_getElem?_getD, h]
theorem words_no {xs : List (List UInt8)} {x : List UInt8} (h : x ∈ xs) (hx : wordB x = false) : wordsB xs = false := by
  unfold wordsB
  have : xs.all wordB = false := by
    rw [List.all_eq_false]
    exact ⟨x, h, by simp [hx]⟩
  rw [this, Bool.and_false]
theorem words_all {xs : List (List UInt8)} (h : xs.all wordB = true) : wordsB xs = decide (0 < xs.length) := by
  unfold wordsB
  rw [h, Bool.and_true]
  cases xs <;> simp

set_option maxHeartbeats 1000000 in
theorem allwords_any (A : Option Addr) (cA n : Nat) (xs : List (List UInt8)) (w : World) (hx : Rd w A xs) (ln : n = xs.length) (hn : n ≤ 1000000) :
    Calls Tryd.prog 45 #[.slice A n cA] w fun e w' => e = .returned (.bool (wordsB xs)) ∧ Below w.heap.size w w' := by
  have HX := Lib.hid hx; clear hx
  have LX := Lib.hid ln; clear ln
  go_enter Tryd.func45, Tryd.ntmps45
  go_wp2_with fail
  go_loopw [7] (fun i wr => ∃ k : Nat, k ≤ n ∧ i = .int .i64 k ∧ Hid ((xs.take k).all wordB = true) ∧ Hid (Below w.heap.size w wr)) (fun i _ => n - (intOf i).toNat)
  case atStart => exact ⟨0, Nat.zero_le _, rfl, rfl, Below.refl _ _⟩
  case round =>
    obtain ⟨k, hk, rfl, HA, HB⟩ := hrel
    by_cases hlt : k < n
    · obtain ⟨b1, o1, rfl, l1, c1⟩ := HX.out (by rw [← LX.out]; omega)
      obtain ⟨x, HXk⟩ : ∃ x : List UInt8, Hid (x = xs.getD k []) := ⟨_, rfl⟩
      have d1 : wr.cell? ⟨b1, o1 + k, none⟩ = some (.string (ba x)) := by
        rw [HB.out.cell (p := ⟨b1, o1 + k, none⟩) l1, c1 k (by rw [← LX.out]; exact hlt), HXk.out]
      clear c1
      go_wp2_with fail
      refine (consists_any (ba x) wr).mono ?_
      rintro e w1 ⟨rfl, hb1⟩
      rw [bl_ba]
      have HB1 := Lib.hid (HB.out.trans (hb1.mono HB.out.size)); clear hb1 d1
      cases hw : wordB x
      · have HW : Hid (wordsB xs = false) := by
          rw [HXk.out] at hw
          exact words_no (List.mem_of_getElem? (getD_get (by rw [← LX.out]; exact hlt))) hw
        clear hw
        go_wp2_with fail
        go_ret
        exact ⟨ret_bool HW.out.symm, HB1.out⟩
      · have HT : Hid ((xs.take (k + 1)).all wordB = true) := by
          show _ = true
          rw [take_getD (by rw [← LX.out]; exact hlt), List.all_append, HA.out, ← HXk.out]; simp [hw]
        clear hw
        go_wp2_with fail
        go_roundw
        case rel => exact ⟨k + 1, by omega, by go_num, HT, HB1⟩
        case measure => simp [intOf]; omega
    · obtain rfl : k = n := by omega
      have hall := HA.out
      rw [LX.out, List.take_length] at hall
      have HW := Lib.hid (words_all hall)
      clear hall
      go_wp2_with fail
      go_ret
      exact ⟨ret_bool (by rw [HW.out, ← LX.out]), HB.out⟩

/-- What a row of texts, and a bool, come to. -/
def RowB (xs : List (List UInt8)) (b : Bool) (w : World) (e : Ending) (w' : World) : Prop :=
  ∃ (A : Option Addr) (k n : Nat), e = .returned (.tuple #[.slice A n k, .bool b]) ∧ n = xs.length ∧ Rd w' A xs ∧ Below w.heap.size w w' ∧ n ≤ k
/-- What a row of texts, and a text, come to. -/
def RowT (xs : List (List UInt8)) (t : List UInt8) (w : World) (e : Ending) (w' : World) : Prop :=
  ∃ (A : Option Addr) (k n : Nat), e = .returned (.tuple #[.slice A n k, .string (ba t)]) ∧ n = xs.length ∧ Rd w' A xs ∧ Below w.heap.size w w'

theorem pieces_len (l : List UInt8) : (pieces l).length ≤ l.length + 1 := by
  unfold pieces
  have h1 := cut_count 32 l
  have h2 := List.count_le_length (a := (32 : UInt8)) (l := l)
  simp; omega

theorem own_cap {w : World} {B n c : Nat} {A : Option Addr} {xs : List Value} (h : w.ownsRow B 9 1 (.slice A n c) n xs) : n ≤ c := by
  rcases h.2 with ⟨hv, hn⟩ | ⟨g, cap, cur, hv, _, _, hc, _⟩
  · omega
  · cases hv; exact hc

set_option maxHeartbeats 1000000 in
theorem words_any (s : ByteArray) (w : World) (hs : s.size ≤ 100000) :
    Calls Tryd.prog 35 #[.string s] w (RowB (wordsL (bl s)) (okW (bl s)) w) := by
  obtain ⟨i0, hi, hz0, hz1, hz2⟩ := info_parts Tryd.info9
  go_enter Tryd.func35, Tryd.ntmps35
  go_wp2_with fail
  refine (is_any _ _).mono ?_
  rintro e w1 ⟨rfl, rfl⟩
  go_wp2_with fail
  refine (cut_any 32 (by decide) s w.heap.size _ hs (by simp) (by simp)).mono ?_
  rintro e w1 ⟨A, cp, n, rfl, hn, hR, hb, hown⟩
  have hlen : n ≤ 100000 := by
    have h1 := cut_count 32 (bl s)
    have h2 := List.count_le_length (a := (32 : UInt8)) (l := bl s)
    rw [← size_bl] at h2
    omega
  have hw1 : w.heap.size < w1.heap.size := by have := hb.size; simp at this; omega
  have HB := Lib.hid (((Below.refl w.heap.size w).alloc (Nat.le_refl _) (.cells #[.int .i32 32] 21)).trans (hb.mono (by simp)))
  have HO := Lib.hid hown
  have HN := Lib.hid hn
  clear hR hb hown hn
  obtain ⟨t, HT⟩ : ∃ t, Hid (t = (cutF 32 (bl s)).2) := ⟨_, rfl⟩
  rw [← HT.out]
  go_wp2_with (at_builtin; refine wpList_append_own _ rfl _ _ 35 rfl (w.alloc (.cells #[.int .i32 32] 21)).heap.size 9 i0 (.string ⟨#[]⟩) 1 16 Tryd.underlying35 hi hz0 hz1 hz2 rfl (by decide) _ _ _ rfl (HO.out.alloc _) ⟨w1.heap.size, 0, none⟩ 1 1 [.string (ba t)] rfl rfl ?c1 ?c2 ?c3 ?c4 ?c5 ?_)
  case c1 =>
    intro j u hj
    match j, hj with
    | 0, hj => simp at hj; subst hj; simp [Addr.add]
  case c2 => intro u hu; simp at hu; subst hu; rfl
  case c3 => unfold maxLen; omega
  case c4 => omega
  case c5 => simp; omega
  intro v' w2 hown2 hgrow _
  have HO2 : Hid (w2.ownsRow (w.heap.size + 1) 9 1 v' (n + 1) (cellsOf (pieces (bl s)))) := by
    show w2.ownsRow _ _ _ _ _ _
    unfold pieces
    rw [cellsOf_append]
    have : cellsOf [(cutF 32 (bl s)).2] = [.string (ba t)] := by rw [HT.out]; rfl
    rw [this]
    exact hown2
  have HB2 : Hid (Below w.heap.size w w2) := (HB.out.alloc (by omega) _).grown hgrow (by simp; omega) (fun q hqq => by have := (HO.out.lt _ hqq).1; simp at this; omega)
  clear hown2 hgrow HB HO
  obtain ⟨A2, c2, rfl, hn2, hR2⟩ := own_row HO2.out
  have HR2 := Lib.hid hR2
  have HN2 := Lib.hid hn2
  have hcap := own_cap HO2.out
  clear hR2 hn2 HO2 HN
  go_wp2_with fail
  refine (allwords_any A2 c2 (n + 1) (pieces (bl s)) w2 HR2.out HN2.out (by omega)).mono ?_
  rintro e w3 ⟨rfl, hb3⟩
  have HB3 := Lib.hid (HB2.out.trans (hb3.mono HB2.out.size))
  have HR3 := Lib.hid (HR2.out.below hb3)
  have HK := Lib.hid (ok_words (bl s))
  clear hb3 HB2 HR2
  rw [← HK.out]
  cases hk : okW (bl s)
  · have HW := Lib.hid (words_not hk)
    have HV := Lib.hid hk
    clear hk
    go_wp2_with fail
    go_ret2
    exact ⟨none, 0, 0, by rw [HV.out]; rfl, by rw [HW.out]; rfl, by rw [HW.out]; exact Rd.nil _ _, HB3.out, Nat.le_refl _⟩
  · have HW := Lib.hid (words_yes hk)
    have HV := Lib.hid hk
    clear hk
    go_wp2_with fail
    go_ret2
    exact ⟨A2, c2, n + 1, by rw [HV.out]; rfl, by rw [HW.out]; exact HN2.out, by rw [HW.out]; exact HR3.out, HB3.out, hcap⟩

set_option maxHeartbeats 1000000 in
theorem lines_any (s : ByteArray) (w : World) (hs : s.size ≤ 100000) :
    Calls Tryd.prog 34 #[.string s] w (RowT (cutF 10 (bl s)).1 (cutF 10 (bl s)).2 w) := by
  go_enter Tryd.func34, Tryd.ntmps34
  go_wp2_with fail
  refine (is_any _ _).mono ?_
  rintro e w1 ⟨rfl, rfl⟩
  go_wp2_with fail
  refine (cut_any 10 (by decide) s w.heap.size _ hs (by simp) (by simp)).mono ?_
  rintro e w1 ⟨A, cp, n, rfl, hn, hR, hb, _⟩
  have HB := Lib.hid (((Below.refl w.heap.size w).alloc (Nat.le_refl _) (.cells #[.int .i32 10] 21)).trans (hb.mono (by simp)))
  have HR := Lib.hid hR
  have HN := Lib.hid hn
  clear hR hb hn
  go_wp2_with fail
  go_ret2
  exact ⟨A, cp, n, rfl, HN.out, HR.out, HB.out⟩

/-- What a row of texts of the call's own, and a text, come to. -/
def RowO (xs : List (List UInt8)) (t : List UInt8) (w : World) (e : Ending) (w' : World) : Prop :=
  ∃ (A : Option Addr) (k n : Nat), e = .returned (.tuple #[.slice A n k, .string (ba t)]) ∧ n = xs.length ∧ w'.ownsRow w.heap.size 9 1 (.slice A n k) n (cellsOf xs) ∧ Below w.heap.size w w'
theorem own_base {w : World} {B B' n : Nat} {v : Value} {xs : List Value} {e s : Nat} (h : w.ownsRow B e s v n xs) (hB : B' ≤ B) : w.ownsRow B' e s v n xs := by
  refine ⟨h.1, ?_⟩
  rcases h.2 with h0 | ⟨g, cap, cur, hv, hg, rest⟩
  · exact .inl h0
  · exact .inr ⟨g, cap, cur, hv, Nat.le_trans hB hg, rest⟩
set_option maxHeartbeats 1000000 in
theorem lines_own (s : ByteArray) (w : World) (hs : s.size ≤ 100000) :
    Calls Tryd.prog 34 #[.string s] w (RowO (cutF 10 (bl s)).1 (cutF 10 (bl s)).2 w) := by
  go_enter Tryd.func34, Tryd.ntmps34
  go_wp2_with fail
  refine (is_any _ _).mono ?_
  rintro e w1 ⟨rfl, rfl⟩
  go_wp2_with fail
  refine (cut_any 10 (by decide) s w.heap.size _ hs (by simp) (by simp)).mono ?_
  rintro e w1 ⟨A, cp, n, rfl, hn, _, hb, ho⟩
  have HB := Lib.hid (((Below.refl w.heap.size w).alloc (Nat.le_refl _) (.cells #[.int .i32 10] 21)).trans (hb.mono (by simp)))
  have HO := Lib.hid (own_base (B' := w.heap.size) ho (by simp))
  have HN := Lib.hid hn
  clear ho hb hn
  go_wp2_with fail
  go_ret2
  exact ⟨A, cp, n, rfl, HN.out, HO.out, HB.out⟩

/-- How long texts are, with one byte more for each. -/
def bulk (xs : List (List UInt8)) : Nat := (xs.map fun x => x.length + 1).sum
theorem bulk_lay (c : UInt8) (xs : List (List UInt8)) : (layL c xs).length = bulk xs := by
  unfold layL bulk
  rw [List.length_flatMap]; simp
theorem bulk_snoc (xs : List (List UInt8)) (x : List UInt8) : bulk (xs ++ [x]) = bulk xs + (x.length + 1) := by simp [bulk]
theorem bulk_append (xs ys : List (List UInt8)) : bulk (xs ++ ys) = bulk xs + bulk ys := by simp [bulk]
theorem bulk_take (xs : List (List UInt8)) (k : Nat) : bulk (xs.take k) ≤ bulk xs := by
  have := bulk_append (xs.take k) (xs.drop k)
  rw [List.take_append_drop] at this; omega
theorem bulk_drop (xs : List (List UInt8)) (k : Nat) : bulk (xs.drop k) ≤ bulk xs := by
  have := bulk_append (xs.take k) (xs.drop k)
  rw [List.take_append_drop] at this; omega
theorem bulk_len (xs : List (List UInt8)) : xs.length ≤ bulk xs := by
  unfold bulk
  induction xs with
  | nil => simp
  | cons x xs ih => simp; omega

set_option maxHeartbeats 1000000 in
theorem lay_any (c : UInt8) (A : Option Addr) (cA n : Nat) (xs : List (List UInt8)) (w : World) (hx : Rd w A xs) (ln : n = xs.length) (hn : bulk xs ≤ 100000) :
    Calls Tryd.prog 42 #[.slice A n cA, .int .u8 (c.toNat : Int)] w fun e w' => e = .returned (.string (ba (layL c xs))) ∧ Below w.heap.size w w' := by
  have hnn : n ≤ 100000 := by have := bulk_len xs; omega
  have HX := Lib.hid hx; clear hx
  have LX := Lib.hid ln; clear ln
  go_enter Tryd.func42, Tryd.ntmps42
  go_wp2_with fail
  go_loopw [10] (fun i wr => ∃ k : Nat, k ≤ n ∧ i = .int .i64 k ∧ Hid (Lib.IsBuilderF 84 5 w.heap.size w.heap.size (Lib.byteCells (layL c (xs.take k))) wr) ∧ Hid (Below w.heap.size w wr)) (fun i _ => n - (intOf i).toNat)
  case atStart => exact ⟨0, Nat.zero_le _, rfl, Lib.IsBuilderF.of (Lib.fresh_isBuilder 84 5 w), (Below.refl _ w).alloc (Nat.le_refl _) _⟩
  case round =>
    obtain ⟨k, hk, rfl, HI, HB⟩ := hrel
    by_cases hlt : k < n
    · obtain ⟨b1, o1, rfl, l1, c1⟩ := HX.out (by rw [← LX.out]; omega)
      obtain ⟨x, HXk⟩ : ∃ x : List UInt8, Hid (x = xs.getD k []) := ⟨_, rfl⟩
      have d1 : wr.cell? ⟨b1, o1 + k, none⟩ = some (.string (ba x)) := by
        rw [HB.out.cell (p := ⟨b1, o1 + k, none⟩) l1, c1 k (by rw [← LX.out]; exact hlt), HXk.out]
      have ht : xs.take (k + 1) = xs.take k ++ [x] := by rw [HXk.out]; exact take_getD (by rw [← LX.out]; exact hlt)
      have hu := bulk_take xs (k + 1)
      rw [ht, bulk_snoc] at hu
      have hlk := bulk_lay c (xs.take k)
      have HT := Lib.hid ht
      have HLk := Lib.hid hlk
      clear c1 ht hlk
      go_wp2_with fail
      refine (write_string w.heap.size w.heap.size _ (ba x) wr HI.out (by rw [Lib.byteCells_length, HLk.out, ba_size]; omega) HB.out.size).mono ?_
      rintro e w1 ⟨rfl, h1, hb1⟩
      rw [bl_ba, ← Lib.byteCells_append] at h1
      have H1 := Lib.hid h1
      have HB1 := Lib.hid (HB.out.trans hb1)
      clear h1 hb1 d1 HI
      go_wp2_with fail
      refine (write_byte w.heap.size w.heap.size _ _ w1 H1.out (by rw [Lib.byteCells_length, List.length_append, HLk.out]; omega) HB1.out.size).mono ?_
      rintro e w2 ⟨rfl, h2, hb2⟩
      have H2 : Hid (Lib.IsBuilderF 84 5 w.heap.size w.heap.size (Lib.byteCells (layL c (xs.take (k + 1)))) w2) := by
        show Lib.IsBuilderF _ _ _ _ _ _
        rw [HT.out, layL_append, layL_one, ← List.append_assoc, Lib.byteCells_append (_ ++ x)]
        exact h2
      have HB2 := Lib.hid (HB1.out.trans hb2)
      clear h2 hb2 H1 HB1
      go_wp2_with fail
      go_roundw
      case rel => exact ⟨k + 1, by omega, by go_num, H2, HB2⟩
      case measure => simp [intOf]; omega
    · obtain rfl : k = n := by omega
      have hI := HI.out
      rw [LX.out, List.take_length] at hI
      have HI2 := Lib.hid hI
      clear hI HI
      go_wp2_with fail
      refine (Tryd.Builder_String_any_k w.heap.size w.heap.size (layL c xs) wr HI2.out HB.out.size).mono ?_
      rintro e w1 ⟨rfl, _, hb1, _⟩
      have HB1 := Lib.hid (HB.out.trans hb1)
      clear hb1
      go_wp2_with fail
      go_ret
      exact ⟨rfl, HB1.out⟩

set_option maxHeartbeats 400000 in
theorem text_any (A : Option Addr) (cA n : Nat) (xs : List (List UInt8)) (w : World) (hx : Rd w A xs) (ln : n = xs.length) (hn : bulk xs ≤ 100000) :
    Calls Tryd.prog 31 #[.slice A n cA] w fun e w' => e = .returned (.string (ba (layL 10 xs))) ∧ Below w.heap.size w w' := by
  have HL := Lib.hid (lay_any 10 A cA n xs w hx ln hn)
  clear hx ln
  go_enter Tryd.func31, Tryd.ntmps31
  go_wp2_with fail
  refine HL.out.mono ?_
  rintro e w1 ⟨rfl, hb⟩
  have HB := Lib.hid hb
  clear hb
  go_wp2_with fail
  go_ret
  exact ⟨rfl, HB.out⟩

set_option maxHeartbeats 1000000 in
theorem join_any (A : Option Addr) (cA n : Nat) (xs : List (List UInt8)) (w : World) (hx : Rd w A xs) (ln : n = xs.length) (hn : bulk xs ≤ 100000) :
    Calls Tryd.prog 41 #[.slice A n cA] w fun e w' => e = .returned (.string (ba (joinL xs))) ∧ Below w.heap.size w w' := by
  have hnn : n ≤ 100000 := by have := bulk_len xs; omega
  have HX := Lib.hid hx; clear hx
  have LX := Lib.hid ln; clear ln
  go_enter Tryd.func41, Tryd.ntmps41
  go_wp2_with fail
  refine (allwords_any A cA n xs w HX.out LX.out (by omega)).mono ?_
  rintro e w1 ⟨rfl, hb1⟩
  have HR1 := Lib.hid (HX.out.below hb1)
  have HB1 := Lib.hid hb1
  clear hb1
  cases hw : wordsB xs
  · have HJ := Lib.hid (join_not hw)
    clear hw
    go_wp2_with fail
    go_ret
    exact ⟨by rw [HJ.out]; rfl, HB1.out⟩
  · have HJ : Hid (joinL xs = (layL 32 xs).dropLast) := by show _ = _; unfold joinL; rw [if_pos hw]
    have hne := (words_parts hw).1
    have hl : 1 ≤ (layL 32 xs).length := by
      have h1 := bulk_len xs
      have h2 : xs.length ≠ 0 := fun e => hne (List.eq_nil_of_length_eq_zero e)
      rw [bulk_lay]; omega
    have hl2 : (layL 32 xs).length ≤ 100000 := by rw [bulk_lay]; exact hn
    clear hw hne
    go_wp2_with fail
    refine (lay_any 32 A cA n xs w1 HR1.out LX.out hn).mono ?_
    rintro e w2 ⟨rfl, hb2⟩
    have HB2 := Lib.hid (HB1.out.trans (hb2.mono HB1.out.size))
    clear hb2
    obtain ⟨t, HTt⟩ : ∃ t, Hid (t = ba (layL 32 xs)) := ⟨_, rfl⟩
    rw [← HTt.out]
    have hts : t.size = (layL 32 xs).length := by rw [HTt.out, ba_size]
    have ht1 : 1 ≤ t.size := by omega
    have ht2 : t.size ≤ 100000 := by omega
    have HTs := Lib.hid hts
    clear hts
    go_wp2_with fail
    go_ret
    refine ⟨?_, HB2.out⟩
    have e : t.extract 0 (t.size - 1) = ba (joinL xs) := by
      apply bl_inj
      rw [HTt.out, bl_cut, bl_ba, bl_ba, ba_size, HJ.out, List.drop_zero, Nat.sub_zero, List.dropLast_eq_take]
    rw [e]; rfl

end Go.Proofs.YtmlflmlgjjjmfaaDoor
