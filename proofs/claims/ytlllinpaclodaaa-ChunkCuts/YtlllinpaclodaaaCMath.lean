/-
  Numbers in pieces: a chunk's bytes, rows cut into chunks, and gathered; apart from any program.
-/
import Derived.Test.YtlllinpaclodaaaBNum
namespace Go.Proofs.Ytlllinpaclodaaa
open Go.RowKit

/-- A number's eight bytes. -/
def be8 (x : UInt64) : List UInt8 := beN 8 x.toNat
theorem be8_len (x : UInt64) : (be8 x).length = 8 := beN_len _ _
theorem flat8_len : ∀ l : List UInt64, (l.flatMap be8).length = 8 * l.length
  | [] => rfl
  | x :: l => by rw [List.flatMap_cons, List.length_append, flat8_len l, be8_len, List.length_cons]; omega
theorem flat8_at : ∀ (l : List UInt64) (i : Nat) (x : UInt64) (z : List UInt8), l[i]? = some x → ((l.flatMap be8 ++ z).drop (8 * i)).take 8 = be8 x
  | [], i, x, z, h => by simp at h
  | y :: l, 0, x, z, h => by
    simp at h; subst h
    rw [List.flatMap_cons, List.append_assoc, Nat.mul_zero, List.drop_zero, List.take_append_of_le_length (by rw [be8_len]; decide), List.take_of_length_le (by rw [be8_len]; decide)]
  | y :: l, i + 1, x, z, h => by
    rw [List.flatMap_cons, List.append_assoc, show 8 * (i + 1) = (be8 y).length + 8 * i by rw [be8_len]; omega, List.drop_append, List.drop_eq_nil_of_le (by omega), List.nil_append]
    rw [show (be8 y).length + 8 * i - (be8 y).length = 8 * i by omega]
    exact flat8_at l i x z (by simpa using h)
/-- The number of eight bytes. -/
def rd8 (b : List UInt8) : UInt64 := UInt64.ofNat (rdN b)
theorem rd8_be (x : UInt64) : rd8 (be8 x) = x := by
  unfold rd8 be8
  rw [rd_be (by have := x.toNat_lt; show _ < 256 ^ 8; omega)]
  exact UInt64.ofNat_toNat
theorem be8_rd {b : List UInt8} (h : b.length = 8) : be8 (rd8 b) = b := by
  unfold rd8 be8
  have := rd_lt b
  rw [h] at this
  rw [UInt64.toNat_ofNat', Nat.mod_eq_of_lt (by omega), ← h, be_rd]
/-- The numbers of bytes, eight by eight. -/
def numsC (b : List UInt8) : List UInt64 := (List.range (b.length / 8)).map fun i => rd8 ((b.drop (8 * i)).take 8)
theorem nums_len (b : List UInt8) : (numsC b).length = b.length / 8 := by simp [numsC]
theorem nums_get {b : List UInt8} {i : Nat} (h : i < b.length / 8) : (numsC b)[i]? = some (rd8 ((b.drop (8 * i)).take 8)) := by
  simp [numsC, h]
theorem nums_flat (l : List UInt64) : numsC (l.flatMap be8) = l := by
  apply List.ext_getElem?
  intro i
  by_cases h : i < l.length
  · rw [nums_get (by rw [flat8_len]; omega), List.getElem?_eq_getElem h]
    have := flat8_at l i l[i] [] (List.getElem?_eq_getElem h)
    rw [List.append_nil] at this
    rw [this, rd8_be]
  · rw [List.getElem?_eq_none (by rw [nums_len, flat8_len]; omega), List.getElem?_eq_none (by omega)]
theorem flat_nums : ∀ (n : Nat) (b : List UInt8), b.length = 8 * n → (numsC b).flatMap be8 = b
  | 0, b, h => by
    have : b = [] := List.length_eq_zero_iff.1 (by omega)
    subst this; rfl
  | n + 1, b, h => by
    have e : numsC b = rd8 (b.take 8) :: numsC (b.drop 8) := by
      apply List.ext_getElem?
      intro i
      match i with
      | 0 => rw [nums_get (by omega)]; rfl
      | i + 1 =>
        rw [List.getElem?_cons_succ]
        by_cases hi : i < n
        · rw [nums_get (by omega), nums_get (by rw [List.length_drop]; omega), List.drop_drop]
          rw [show 8 * (i + 1) = 8 + 8 * i by omega]
        · rw [List.getElem?_eq_none (by rw [nums_len]; omega), List.getElem?_eq_none (by rw [nums_len, List.length_drop]; omega)]
    rw [e, List.flatMap_cons, be8_rd (by rw [List.length_take]; omega), flat_nums n (b.drop 8) (by rw [List.length_drop]; omega), List.take_append_drop]
/-- May a chunk of so many numbers stand there? -/
def okPut (a : Int) (n : Nat) : Bool := decide (0 ≤ a) && decide (a ≤ 65535) && decide (1 ≤ n) && decide (n ≤ 6) && decide (a + n ≤ 65536)
theorem ok_put {a : Int} {n : Nat} : okPut a n = true ↔ 0 ≤ a ∧ a ≤ 65535 ∧ 1 ≤ n ∧ n ≤ 6 ∧ a + n ≤ 65536 := by
  simp [okPut, and_assoc]
theorem ok_put_no {a : Int} {n : Nat} (h : ¬ (0 ≤ a ∧ a ≤ 65535 ∧ 1 ≤ n ∧ n ≤ 6 ∧ a + n ≤ 65536)) : okPut a n = false := by
  rw [Bool.eq_false_iff]; exact fun e => h (ok_put.1 e)
def laidC (p : Nat) (l : List UInt64) : List UInt8 := beN 2 p ++ l.flatMap be8
theorem laid_len (p : Nat) (l : List UInt64) : (laidC p l).length = 2 + 8 * l.length := by
  rw [laidC, List.length_append, beN_len, flat8_len]
def putC (a : Int) (l : List UInt64) : List UInt8 := if okPut a l.length = true then laidC a.toNat l else []
theorem put_yes {a : Int} {l : List UInt64} (h : okPut a l.length = true) : putC a l = laidC a.toNat l := if_pos h
theorem put_no {a : Int} {l : List UInt64} (h : okPut a l.length = false) : putC a l = [] := if_neg (by rw [h]; decide)
theorem put_len {a : Int} {l : List UInt64} (h : okPut a l.length = true) : (putC a l).length = 2 + 8 * l.length := by rw [put_yes h, laid_len]
theorem put_max (a : Int) (l : List UInt64) : (putC a l).length ≤ 50 := by
  by_cases h : okPut a l.length = true
  · have := (ok_put.1 h).2.2.2.1
    rw [put_len h]; omega
  · rw [put_no (by simpa using h)]; simp
/-- What bytes are. -/
def posC (b : List UInt8) : Nat := rdN (b.take 2)
def manyC (b : List UInt8) : Nat := (b.length - 2) / 8
def okGet (b : List UInt8) : Bool := decide (10 ≤ b.length) && decide (b.length ≤ 50) && decide ((b.length - 2) % 8 = 0) && decide (posC b + manyC b ≤ 65536)
theorem ok_get {b : List UInt8} : okGet b = true ↔ 10 ≤ b.length ∧ b.length ≤ 50 ∧ (b.length - 2) % 8 = 0 ∧ posC b + manyC b ≤ 65536 := by
  simp [okGet, and_assoc]
theorem ok_get_no {b : List UInt8} (h : ¬ (10 ≤ b.length ∧ b.length ≤ 50 ∧ (b.length - 2) % 8 = 0 ∧ posC b + manyC b ≤ 65536)) : okGet b = false := by
  rw [Bool.eq_false_iff]; exact fun e => h (ok_get.1 e)
def listC (b : List UInt8) : List UInt64 := numsC (b.drop 2)
theorem list_len {b : List UInt8} : (listC b).length = manyC b := by rw [listC, nums_len, List.length_drop]; rfl
def getP (b : List UInt8) : Int := if okGet b = true then (posC b : Int) else 0
def getL (b : List UInt8) : List UInt64 := if okGet b = true then listC b else []
theorem pos_lt {b : List UInt8} (h : okGet b = true) : posC b < 65536 := by
  obtain ⟨h1, h2, h3, h4⟩ := ok_get.1 h
  unfold manyC at h4; omega
theorem get_nil : okGet [] = false := rfl
theorem pos_laid {p : Nat} (h : p < 65536) (l : List UInt64) (z : List UInt8) : posC (laidC p l ++ z) = p := by
  unfold posC laidC
  rw [List.append_assoc, List.take_append_of_le_length (by rw [beN_len]; decide), List.take_of_length_le (by rw [beN_len]; decide), rd_be (by omega)]
theorem list_laid (p : Nat) (l : List UInt64) : listC (laidC p l) = l := by
  unfold listC laidC
  rw [List.drop_append, List.drop_eq_nil_of_le (by rw [beN_len]; decide), beN_len]
  exact nums_flat l
theorem get_put {a : Int} {l : List UInt64} (h : okPut a l.length = true) : okGet (putC a l) = true ∧ posC (putC a l) = a.toNat ∧ listC (putC a l) = l ∧ manyC (putC a l) = l.length := by
  obtain ⟨h1, h2, h3, h4, h5⟩ := ok_put.1 h
  rw [put_yes h]
  have p1 : posC (laidC a.toNat l) = a.toNat := by
    have := pos_laid (p := a.toNat) (by omega) l []
    rwa [List.append_nil] at this
  have m1 : manyC (laidC a.toNat l) = l.length := by unfold manyC; rw [laid_len]; omega
  refine ⟨ok_get.2 ⟨?_, ?_, ?_, ?_⟩, p1, list_laid _ _, m1⟩
  · rw [laid_len]; omega
  · rw [laid_len]; omega
  · rw [laid_len]; omega
  · rw [p1, m1]; omega
theorem put_get {b : List UInt8} (h : okGet b = true) : okPut (posC b : Int) (listC b).length = true ∧ putC (posC b : Int) (listC b) = b := by
  have hp := pos_lt h
  obtain ⟨h1, h2, h3, h4⟩ := ok_get.1 h
  have o : okPut (posC b : Int) (listC b).length = true := by
    rw [list_len, ok_put]
    unfold manyC at h4 ⊢
    refine ⟨by omega, by omega, by omega, by omega, by omega⟩
  refine ⟨o, ?_⟩
  rw [put_yes o, Int.toNat_natCast]
  unfold laidC posC listC
  rw [flat_nums ((b.length - 2) / 8) (b.drop 2) (by rw [List.length_drop]; omega)]
  have : beN 2 (rdN (b.take 2)) = b.take 2 := by
    have := be_rd (b.take 2)
    rwa [List.length_take, Nat.min_eq_left (by omega)] at this
  rw [this, List.take_append_drop]
theorem get_ok_put (a : Int) (l : List UInt64) : okGet (putC a l) = okPut a l.length := by
  by_cases h : okPut a l.length = true
  · rw [h]; exact (get_put h).1
  · have h : okPut a l.length = false := by simpa using h
    rw [h, put_no h]; rfl
/-- Numbers, cut into chunks. -/
def okCut (a : Int) (n : Nat) : Bool := decide (0 ≤ a) && decide (a ≤ 65535) && decide (a + n ≤ 65536)
theorem ok_cut {a : Int} {n : Nat} : okCut a n = true ↔ 0 ≤ a ∧ a ≤ 65535 ∧ a + n ≤ 65536 := by simp [okCut, and_assoc]
def partC (a : Int) (l : List UInt64) (k : Nat) : List UInt8 := putC (a + (6 * k : Nat)) ((l.drop (6 * k)).take 6)
def cutC (a : Int) (l : List UInt64) : List (List UInt8) := if okCut a l.length = true then (List.range ((l.length + 5) / 6)).map (partC a l) else []
theorem cut_yes {a : Int} {l : List UInt64} (h : okCut a l.length = true) : cutC a l = (List.range ((l.length + 5) / 6)).map (partC a l) := if_pos h
theorem cut_no {a : Int} {l : List UInt64} (h : okCut a l.length = false) : cutC a l = [] := if_neg (by rw [h]; decide)
theorem cut_len {a : Int} {l : List UInt64} (h : okCut a l.length = true) : (cutC a l).length = (l.length + 5) / 6 := by rw [cut_yes h]; simp
theorem cut_get {a : Int} {l : List UInt64} (h : okCut a l.length = true) {k : Nat} (hk : k < (l.length + 5) / 6) : (cutC a l)[k]? = some (partC a l k) := by
  rw [cut_yes h]; simp [hk]
theorem part_ok {a : Int} {l : List UInt64} (h : okCut a l.length = true) {k : Nat} (hk : k < (l.length + 5) / 6) : okPut (a + (6 * k : Nat)) ((l.drop (6 * k)).take 6).length = true := by
  obtain ⟨h1, h2, h3⟩ := ok_cut.1 h
  rw [List.length_take, List.length_drop, ok_put]
  refine ⟨by omega, by omega, by omega, by omega, by omega⟩
/-- The number that a chunk has at a position. -/
def hasC (q : Int) (b : List UInt8) : Option UInt64 := if okGet b = true ∧ (posC b : Int) ≤ q ∧ q < posC b + manyC b then (listC b)[(q - posC b).toNat]? else none
def numC (q : Int) (bss : List (List UInt8)) : Option UInt64 := bss.findSome? (hasC q)
theorem has_part {a : Int} {l : List UInt64} (h : okCut a l.length = true) {k : Nat} (hk : k < (l.length + 5) / 6) {i : Nat} (hi : i < l.length) : hasC (a + i) (partC a l k) = if i / 6 = k then l[i]? else none := by
  have o := part_ok h hk
  obtain ⟨g1, g2, g3, g4⟩ := get_put o
  obtain ⟨h1, h2, h3⟩ := ok_cut.1 h
  unfold hasC
  show (if okGet (putC _ _) = true ∧ _ then _ else _) = _
  unfold partC
  rw [g2, g3, g4, List.length_take, List.length_drop]
  have p1 : (((a + (6 * k : Nat)).toNat : Nat) : Int) = a + (6 * k : Nat) := by omega
  rw [p1]
  by_cases q : i / 6 = k
  · rw [if_pos ⟨g1, by omega, by omega⟩, if_pos q]
    have e : (a + (i : Int) - (a + (6 * k : Nat))).toNat = i - 6 * k := by omega
    rw [e, List.getElem?_take, if_pos (by omega), List.getElem?_drop]
    congr 1; omega
  · rw [if_neg (by rintro ⟨_, z1, z2⟩; omega), if_neg q]
theorem num_of {q : Int} {bss : List (List UInt8)} {x : UInt64} (h1 : ∀ b ∈ bss, ∀ v, hasC q b = some v → v = x) (h2 : ∃ b ∈ bss, hasC q b ≠ none) : numC q bss = some x := by
  unfold numC
  induction bss with
  | nil => obtain ⟨b, hb, _⟩ := h2; simp at hb
  | cons b bs ih =>
    rw [List.findSome?_cons]
    cases hb : hasC q b with
    | some v => rw [h1 b (by simp) v hb]
    | none =>
      refine ih (fun c hc => h1 c (by simp [hc])) ?_
      obtain ⟨c, hc, hn⟩ := h2
      rcases List.mem_cons.1 hc with rfl | hc
      · exact absurd hb hn
      · exact ⟨c, hc, hn⟩
theorem num_none {q : Int} {bss : List (List UInt8)} (h : ∀ b ∈ bss, hasC q b = none) : numC q bss = none := by
  unfold numC
  rw [List.findSome?_eq_none_iff]
  exact h
/-- Numbers that are gathered. -/
def okGa (a m : Int) (bss : List (List UInt8)) : Bool := decide (0 ≤ m) && decide (m ≤ 4096) && (decide (m ≤ 0) || decide (0 ≤ a) && decide (a ≤ 65535)) && (List.range m.toNat).all fun (i : Nat) => (numC (a + (i : Int)) bss).isSome
def allGa (a m : Int) (bss : List (List UInt8)) : List UInt64 := (List.range m.toNat).map fun (i : Nat) => (numC (a + (i : Int)) bss).getD 0
def gaL (a m : Int) (bss : List (List UInt8)) : List UInt64 := if okGa a m bss = true then allGa a m bss else []
theorem ok_ga {a m : Int} {bss : List (List UInt8)} : okGa a m bss = true ↔ 0 ≤ m ∧ m ≤ 4096 ∧ (m ≤ 0 ∨ 0 ≤ a ∧ a ≤ 65535) ∧ ∀ i : Nat, i < m.toNat → numC (a + (i : Int)) bss ≠ none := by
  simp [okGa, and_assoc, Option.isSome_iff_ne_none]
/-- What is gathered of chunks of a row: any part of it, if each of its numbers is there. -/
theorem ga_part {a : Int} {l : List UInt64} (h : okCut a l.length = true) {bss : List (List UInt8)} {f n : Nat} (hfn : f + n ≤ l.length) (hn : n ≤ 4096) (h1 : ∀ b ∈ bss, ∃ k, k < (l.length + 5) / 6 ∧ b = partC a l k) (h2 : ∀ k, f / 6 ≤ k → 6 * k < f + n → partC a l k ∈ bss) :
    okGa (a + f) n bss = true ∧ gaL (a + f) n bss = (l.drop f).take n := by
  obtain ⟨c1, c2, c3⟩ := ok_cut.1 h
  have hv : ∀ i : Nat, i < n → numC (a + f + i) bss = l[f + i]? := fun i hi => by
    have hl : f + i < l.length := by omega
    rw [List.getElem?_eq_getElem hl]
    refine num_of (fun b hb v hv => ?_) ⟨partC a l ((f + i) / 6), h2 _ (by omega) (by omega), ?_⟩
    · obtain ⟨k, hk, rfl⟩ := h1 b hb
      rw [show a + f + i = a + ((f + i : Nat) : Int) by omega, has_part h hk hl] at hv
      split at hv
      · rw [List.getElem?_eq_getElem hl] at hv; exact (Option.some.inj hv).symm
      · cases hv
    · rw [show a + f + i = a + ((f + i : Nat) : Int) by omega, has_part h (by omega) hl, if_pos rfl, List.getElem?_eq_getElem hl]
      exact Option.some_ne_none _
  have ok : okGa (a + f) n bss = true := ok_ga.2 ⟨by omega, by omega, by omega, fun i hi => by
    rw [hv i (by omega), List.getElem?_eq_getElem (by omega)]; exact Option.some_ne_none _⟩
  refine ⟨ok, ?_⟩
  unfold gaL
  rw [if_pos ok]
  apply List.ext_getElem?
  intro i
  unfold allGa
  rw [Int.toNat_natCast, List.getElem?_map]
  by_cases hi : i < n
  · rw [List.getElem?_range hi, List.getElem?_take, if_pos hi, List.getElem?_drop, ← hv i hi]
    rw [hv i hi, List.getElem?_eq_getElem (by omega)]; simp [hv i hi, List.getElem?_eq_getElem (show f + i < l.length by omega)]
  · rw [List.getElem?_eq_none (by simp; omega), List.getElem?_eq_none (by simp; omega)]; rfl

theorem getl_max (b : List UInt8) : (getL b).length ≤ 6 := by
  unfold getL
  split
  · rename_i h
    have := (ok_get.1 h).2.1
    rw [list_len]; unfold manyC; omega
  · simp
theorem cut_max (a : Int) (l : List UInt64) : (cutC a l).length ≤ l.length := by
  unfold cutC
  split
  · simp; omega
  · simp
theorem gal_max (a m : Int) (bss : List (List UInt8)) : (gaL a m bss).length ≤ 4096 := by
  unfold gaL
  split
  · rename_i h
    have := (ok_ga.1 h).2.1
    simp [allGa]; omega
  · simp

theorem has_put {a : Int} {l : List UInt64} (h : okPut a l.length = true) (q : Int) : hasC q (putC a l) = if a ≤ q ∧ q < a + l.length then l[(q - a).toNat]? else none := by
  obtain ⟨g1, g2, g3, g4⟩ := get_put h
  obtain ⟨h1, _⟩ := ok_put.1 h
  unfold hasC
  rw [g2, g3, g4]
  have p1 : ((a.toNat : Nat) : Int) = a := by omega
  rw [p1]
  by_cases c : a ≤ q ∧ q < a + l.length
  · rw [if_pos ⟨g1, c.1, c.2⟩, if_pos c]
  · rw [if_neg (fun z => c z.2), if_neg c]
theorem has_junk {b : List UInt8} (h : okGet b = false) (q : Int) : hasC q b = none := if_neg (fun z => by rw [h] at z; exact absurd z.1 (by decide))
theorem small_ok {p : Nat} (h : p < 60000) {n : Nat} (h1 : 1 ≤ n) (h2 : n ≤ 6) : okPut (p : Int) n = true := ok_put.2 ⟨by omega, by omega, h1, h2, by omega⟩
theorem first_one {p : Nat} (h : p < 60000) (a b : UInt64) : okGa p 1 [putC p [a], putC p [b]] = true ∧ gaL p 1 [putC p [a], putC p [b]] = [a] := by
  have n0 : numC ((p : Int) + ((0 : Nat) : Int)) [putC p [a], putC p [b]] = some a := by
    unfold numC
    rw [List.findSome?_cons, has_put (small_ok h (by simp) (by simp)), if_pos ⟨by omega, by simp; omega⟩]
    rw [show ((p : Int) + ((0 : Nat) : Int) - (p : Int)).toNat = 0 by omega]; rfl
  have ok : okGa p 1 [putC p [a], putC p [b]] = true := ok_ga.2 ⟨by decide, by decide, Or.inr ⟨by omega, by omega⟩, fun i hi => by
    obtain rfl : i = 0 := by have : i < 1 := hi; omega
    rw [n0]; exact Option.some_ne_none _⟩
  refine ⟨ok, ?_⟩
  unfold gaL; rw [if_pos ok]
  show [(numC ((p : Int) + ((0 : Nat) : Int)) _).getD 0] = _
  rw [n0]; rfl
theorem first_two {p : Nat} (h : p < 60000) (a b : UInt64) {j : List UInt8} (hj : okGet j = false) : okGa p 2 [j, putC p [a], j, putC p [b, b]] = true ∧ gaL p 2 [j, putC p [a], j, putC p [b, b]] = [a, b] := by
  have n0 : numC ((p : Int) + ((0 : Nat) : Int)) [j, putC p [a], j, putC p [b, b]] = some a := by
    unfold numC
    rw [List.findSome?_cons, has_junk hj, List.findSome?_cons, has_put (small_ok h (by simp) (by simp)), if_pos ⟨by omega, by simp; omega⟩]
    rw [show ((p : Int) + ((0 : Nat) : Int) - (p : Int)).toNat = 0 by omega]; rfl
  have n1 : numC ((p : Int) + ((1 : Nat) : Int)) [j, putC p [a], j, putC p [b, b]] = some b := by
    unfold numC
    rw [List.findSome?_cons, has_junk hj, List.findSome?_cons, has_put (small_ok h (by simp) (by simp)), if_neg (by simp), List.findSome?_cons, has_junk hj, List.findSome?_cons, has_put (small_ok h (by simp) (by simp)), if_pos ⟨by omega, by simp⟩]
    rw [show ((p : Int) + ((1 : Nat) : Int) - (p : Int)).toNat = 1 by omega]; rfl
  have ok : okGa p 2 [j, putC p [a], j, putC p [b, b]] = true := ok_ga.2 ⟨by decide, by decide, Or.inr ⟨by omega, by omega⟩, fun i hi => by
    have : i < 2 := hi
    obtain rfl | rfl : i = 0 ∨ i = 1 := by omega
    · rw [n0]; exact Option.some_ne_none _
    · rw [n1]; exact Option.some_ne_none _⟩
  refine ⟨ok, ?_⟩
  unfold gaL; rw [if_pos ok]
  show [(numC ((p : Int) + ((0 : Nat) : Int)) _).getD 0, (numC ((p : Int) + ((1 : Nat) : Int)) _).getD 0] = _
  rw [n0, n1]; rfl

theorem ga_all {p : Nat} {l : List UInt64} {bss : List (List UInt8)} (h : okCut (p : Int) l.length = true) (hn : l.length ≤ 4096) (h1 : ∀ b ∈ bss, b ∈ cutC p l) (h2 : ∀ k, k < (l.length + 5) / 6 → partC p l k ∈ bss) {f n : Nat} (hf : f + n ≤ l.length) :
    okGa ((p : Int) + (f : Int)) n bss = true ∧ gaL ((p : Int) + (f : Int)) n bss = (l.drop f).take n :=
  ga_part h hf (by omega) (fun b hb => by
    have := h1 b hb
    rw [cut_yes h, List.mem_map] at this
    obtain ⟨k, hk, e⟩ := this
    exact ⟨k, List.mem_range.1 hk, e.symm⟩) (fun k _ hk => h2 k (by omega))
theorem ga_whole {p : Nat} {l : List UInt64} {bss : List (List UInt8)} (h : okCut (p : Int) l.length = true) (hn : l.length ≤ 4096) (h1 : ∀ b ∈ bss, b ∈ cutC p l) (h2 : ∀ k, k < (l.length + 5) / 6 → partC p l k ∈ bss) {n : Nat} (hl : n = l.length) :
    okGa (p : Int) n bss = true ∧ gaL (p : Int) n bss = l := by
  subst hl
  have := ga_all h hn h1 h2 (f := 0) (n := l.length) (by omega)
  rw [List.drop_zero, List.take_of_length_le (Nat.le_refl _), show (p : Int) + ((0 : Nat) : Int) = p by omega] at this
  exact this
theorem cut_small {a : Int} {l : List UInt64} : ∀ b ∈ cutC a l, b.length ≤ 50 := fun b hb => by
  unfold cutC at hb
  split at hb
  · obtain ⟨k, _, e⟩ := List.mem_map.1 hb
    rw [← e]; exact put_max _ _
  · simp at hb

theorem ga_zero (a : Int) (bss : List (List UInt8)) : okGa a 0 bss = true ∧ gaL a 0 bss = [] := by
  have ok : okGa a 0 bss = true := ok_ga.2 ⟨by decide, by decide, Or.inl (by decide), fun i hi => absurd hi (by simp)⟩
  refine ⟨ok, ?_⟩
  unfold gaL; rw [if_pos ok]; rfl
def lessC (a : Int) (l : List UInt64) (k : Nat) : List (List UInt8) := (cutC a l).take k ++ (cutC a l).drop (k + 1)
theorem less_mem {a : Int} {l : List UInt64} (h : okCut a l.length = true) {k : Nat} (hk : k < (l.length + 5) / 6) {b : List UInt8} (hb : b ∈ lessC a l k) : ∃ j, j < (l.length + 5) / 6 ∧ j ≠ k ∧ b = partC a l j := by
  unfold lessC at hb
  rw [cut_yes h] at hb
  rcases List.mem_append.1 hb with q | q
  · obtain ⟨i, hi, e⟩ := List.mem_iff_getElem.1 q
    simp at hi e
    exact ⟨i, by omega, by omega, e.symm⟩
  · obtain ⟨i, hi, e⟩ := List.mem_iff_getElem.1 q
    simp at hi e
    exact ⟨k + 1 + i, by omega, by omega, e.symm⟩
theorem less_has {a : Int} {l : List UInt64} (h : okCut a l.length = true) {k j : Nat} (hj : j < (l.length + 5) / 6) (hne : j ≠ k) : partC a l j ∈ lessC a l k := by
  unfold lessC
  have g := cut_get h hj
  rcases Nat.lt_or_ge j k with q | q
  · exact List.mem_append_left _ (List.mem_of_getElem? (i := j) (by rw [List.getElem?_take, if_pos q]; exact g))
  · exact List.mem_append_right _ (List.mem_of_getElem? (i := j - (k + 1)) (by rw [List.getElem?_drop, show k + 1 + (j - (k + 1)) = j by omega]; exact g))
theorem ga_lack {p : Nat} {l : List UInt64} (h : okCut (p : Int) l.length = true) {k : Nat} (hk : k < (l.length + 5) / 6) : okGa (p : Int) l.length (lessC p l k) = false := by
  rw [Bool.eq_false_iff]
  intro e
  have := (ok_ga.1 e).2.2.2 (6 * k) (by omega)
  apply this
  exact num_none (fun b hb => by
    obtain ⟨j, hj, hne, rfl⟩ := less_mem h hk hb
    rw [has_part h hj (by omega), if_neg (by omega)])
theorem ga_ahead {p : Nat} {l : List UInt64} (h : okCut (p : Int) l.length = true) (hn : l.length ≤ 4096) {k : Nat} (hk : k < (l.length + 5) / 6) : okGa (p : Int) ((6 * k : Nat) : Int) (lessC p l k) = true ∧ gaL (p : Int) ((6 * k : Nat) : Int) (lessC p l k) = l.take (6 * k) := by
  have := ga_part h (bss := lessC p l k) (f := 0) (n := 6 * k) (by omega) (by omega) (fun b hb => by
    obtain ⟨j, hj, _, e⟩ := less_mem h hk hb
    exact ⟨j, hj, e⟩) (fun j _ h2 => less_has h (by omega) (by omega))
  rw [List.drop_zero, show (p : Int) + ((0 : Nat) : Int) = p by omega] at this
  exact this
theorem ga_behind {p : Nat} {l : List UInt64} (h : okCut (p : Int) l.length = true) (hn : l.length ≤ 4096) {k : Nat} (hk : k < (l.length + 5) / 6) {e n : Nat} (he : e = min (6 * k + 6) l.length) (hen : n = l.length - e) :
    okGa ((p : Int) + (e : Int)) (n : Int) (lessC p l k) = true ∧ gaL ((p : Int) + (e : Int)) (n : Int) (lessC p l k) = l.drop e := by
  rcases Nat.eq_zero_or_pos n with z | z
  · subst z
    have := ga_zero ((p : Int) + (e : Int)) (lessC p l k)
    rw [List.drop_eq_nil_of_le (by omega)]
    exact this
  · have := ga_part h (bss := lessC p l k) (f := e) (n := n) (by omega) (by omega) (fun b hb => by
      obtain ⟨j, hj, _, e⟩ := less_mem h hk hb
      exact ⟨j, hj, e⟩) (fun j h1 h2 => less_has h (by omega) (by omega))
    rw [List.take_of_length_le (by rw [List.length_drop]; omega)] at this
    exact this
theorem less_small {a : Int} {l : List UInt64} {k : Nat} : ∀ b ∈ lessC a l k, b.length ≤ 50 := fun b hb => by
  unfold lessC at hb
  rcases List.mem_append.1 hb with q | q
  · exact cut_small b (List.mem_of_mem_take q)
  · exact cut_small b (List.mem_of_mem_drop q)
theorem less_len {a : Int} {l : List UInt64} (h : okCut a l.length = true) {k : Nat} (hk : k < (l.length + 5) / 6) : (lessC a l k).length = (l.length + 5) / 6 - 1 := by
  unfold lessC
  rw [List.length_append, List.length_take, List.length_drop, cut_len h]; omega

def longC (p : Nat) (l : List UInt64) : List UInt8 := laidC p l ++ List.replicate 60 0
theorem long_len (p : Nat) (l : List UInt64) : (longC p l).length = 62 + 8 * l.length := by
  unfold longC; rw [List.length_append, laid_len, List.length_replicate]; omega
theorem cuts_pos {p : Nat} (hp : p < 60000) (l : List UInt64) {k : Nat} (hk : 2 ≤ k) : posC ((longC p l).take k) = p := by
  unfold posC
  rw [List.take_take, Nat.min_eq_left hk]
  exact pos_laid (by omega) l _
theorem cuts_ok {p : Nat} (hp : p < 60000) {l : List UInt64} (h1 : 1 ≤ l.length) {k : Nat} (hk : k < 60) : okGet ((longC p l).take k) = true ↔ 10 ≤ k ∧ k ≤ 50 ∧ k % 8 = 2 := by
  have hl : ((longC p l).take k).length = k := by rw [List.length_take, long_len]; omega
  rw [ok_get, hl]
  unfold manyC
  rw [hl]
  constructor
  · rintro ⟨a, b, c, _⟩; exact ⟨a, b, by omega⟩
  · rintro ⟨a, b, c⟩
    refine ⟨a, b, by omega, ?_⟩
    rw [cuts_pos hp l (by omega)]; omega
theorem cuts_list {p : Nat} {l : List UInt64} (h1 : 1 ≤ l.length) {k m : Nat} (hk : k < 60) (h2 : k % 8 = 2) (hm : m = min ((k - 2) / 8) l.length) : (listC ((longC p l).take k)).take m = l.take m := by
  have hl : ((longC p l).take k).length = k := by rw [List.length_take, long_len]; omega
  apply List.ext_getElem?
  intro i
  by_cases hi : i < m
  · rw [List.getElem?_take, if_pos hi, List.getElem?_take, if_pos hi]
    unfold listC
    rw [nums_get (by rw [List.length_drop, hl]; omega), List.getElem?_eq_getElem (show i < l.length by omega)]
    have e : ((((longC p l).take k).drop 2).drop (8 * i)).take 8 = be8 l[i] := by
      have e0 : (longC p l).drop 2 = l.flatMap be8 ++ List.replicate 60 0 := by
        unfold longC laidC
        rw [List.append_assoc, List.drop_append, List.drop_eq_nil_of_le (by rw [beN_len]; decide), beN_len]; rfl
      rw [List.drop_take, e0, List.drop_take, List.take_take, show min 8 (k - 2 - 8 * i) = 8 by omega]
      exact flat8_at l i l[i] _ (List.getElem?_eq_getElem (by omega))
    rw [e, rd8_be]
  · rw [List.getElem?_eq_none (by rw [List.length_take]; omega), List.getElem?_eq_none (by rw [List.length_take]; omega)]

end Go.Proofs.Ytlllinpaclodaaa
