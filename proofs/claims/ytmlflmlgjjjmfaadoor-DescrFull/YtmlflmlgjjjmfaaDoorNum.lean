/-
  Numbers and their decimal texts; and what a rune of a text is; apart from any program.
-/
import Derived.Test.YtmlflmlgjjjmfaaDoorMath
import Derived.Laws.RangeAny
namespace Go.Proofs.YtmlflmlgjjjmfaaDoor

theorem head_front {α : Type} (l r : List α) (h : l ≠ []) : (l ++ r).head? = l.head? := by cases l with | nil => exact absurd rfl h | cons => rfl
def dec (n : Nat) : List UInt8 := Lib.decDigits n
def dgt (u : Nat) : UInt8 := UInt8.ofNat (48 + u % 10)
def isDig (b : UInt8) : Bool := decide (48 ≤ b) && decide (b ≤ 57)
def valL (l : List UInt8) : Nat := l.foldl (fun n b => 10 * n + (b.toNat - 48)) 0

theorem dec_small {n : Nat} (h : n < 10) : dec n = [dgt n] := by
  unfold dec dgt; rw [Lib.decDigits_one h, Nat.mod_eq_of_lt h]
theorem dec_big {n : Nat} (h : 10 ≤ n) : dec n = dec (n / 10) ++ [dgt n] := by
  unfold dec dgt; rw [Lib.decDigits, dif_neg (by omega)]
theorem dec_ten (n r : Nat) (h1 : 1 ≤ n) (hr : r < 10) : dec (10 * n + r) = dec n ++ [dgt r] := by
  rw [dec_big (by omega)]
  have e1 : (10 * n + r) / 10 = n := by omega
  have e2 : dgt (10 * n + r) = dgt r := by unfold dgt; congr 2; omega
  rw [e1, e2]
theorem dgt_nat (u : Nat) : (dgt u).toNat = 48 + u % 10 := by
  unfold dgt; rw [UInt8.toNat_ofNat']; omega
theorem dgt_dig (u : Nat) : isDig (dgt u) = true := by
  unfold isDig
  rw [Bool.and_eq_true, decide_eq_true_eq, decide_eq_true_eq, UInt8.le_iff_toNat_le, UInt8.le_iff_toNat_le, dgt_nat]
  refine ⟨?_, ?_⟩
  · show 48 ≤ _; omega
  · show _ ≤ 57; omega
theorem dig_nat {b : UInt8} (h : isDig b = true) : 48 ≤ b.toNat ∧ b.toNat ≤ 57 := by
  unfold isDig at h
  rw [Bool.and_eq_true, decide_eq_true_eq, decide_eq_true_eq, UInt8.le_iff_toNat_le, UInt8.le_iff_toNat_le] at h
  exact h
theorem dig_of_nat {b : UInt8} (h : 48 ≤ b.toNat ∧ b.toNat ≤ 57) : isDig b = true := by
  unfold isDig
  rw [Bool.and_eq_true, decide_eq_true_eq, decide_eq_true_eq, UInt8.le_iff_toNat_le, UInt8.le_iff_toNat_le]
  exact h
theorem dgt_of_dig {b : UInt8} (h : isDig b = true) (n : Nat) : dgt (10 * n + (b.toNat - 48)) = b := by
  have := dig_nat h
  apply UInt8.toNat_inj.1
  rw [dgt_nat]; omega
theorem val_snoc (l : List UInt8) (b : UInt8) : valL (l ++ [b]) = 10 * valL l + (b.toNat - 48) := by simp [valL]
theorem dec_digs (n : Nat) : ∀ b ∈ dec n, isDig b = true := by
  induction n using Nat.strongRecOn with
  | ind n ih =>
    by_cases h : n < 10
    · rw [dec_small h]; intro b hb; rw [List.mem_singleton.1 hb]; exact dgt_dig _
    · rw [dec_big (by omega)]
      intro b hb
      rcases List.mem_append.1 hb with h1 | h1
      · exact ih (n / 10) (by omega) b h1
      · rw [List.mem_singleton.1 h1]; exact dgt_dig _
theorem dec_ne (n : Nat) : dec n ≠ [] := by
  by_cases h : n < 10
  · rw [dec_small h]; simp
  · rw [dec_big (by omega)]; simp
theorem val_dec (n : Nat) : valL (dec n) = n := by
  induction n using Nat.strongRecOn with
  | ind n ih =>
    by_cases h : n < 10
    · rw [dec_small h]; show 10 * 0 + ((dgt n).toNat - 48) = n; rw [dgt_nat]; omega
    · rw [dec_big (by omega), val_snoc, ih (n / 10) (by omega), dgt_nat]; omega
theorem dec_inj {m n : Nat} (h : dec m = dec n) : m = n := by rw [← val_dec m, h, val_dec]
theorem dec_head (n : Nat) (h : 1 ≤ n) : (dec n).head? ≠ some 48 := by
  induction n using Nat.strongRecOn with
  | ind n ih =>
    by_cases h9 : n < 10
    · rw [dec_small h9]
      intro e
      have e2 : dgt n = 48 := Option.some.inj e
      have := congrArg UInt8.toNat e2
      rw [dgt_nat] at this
      have h48 : (48 : UInt8).toNat = 48 := rfl
      omega
    · rw [dec_big (by omega), head_front _ _ (dec_ne _)]
      exact ih (n / 10) (by omega) (by omega)
theorem dec_len {k : Nat} : ∀ {n : Nat}, n < 10 ^ (k + 1) → (dec n).length ≤ k + 1 := by
  induction k with
  | zero => intro n h; rw [dec_small (by simpa using h)]; simp
  | succ k ih =>
    intro n h
    by_cases h9 : n < 10
    · rw [dec_small h9]; simp
    · rw [dec_big (by omega), List.length_append]
      have : (dec (n / 10)).length ≤ k + 1 := ih (by rw [Nat.div_lt_iff_lt_mul (by omega)]; rw [Nat.pow_succ] at h; exact h)
      simp; omega
theorem val_lt (l : List UInt8) (h : ∀ b ∈ l, isDig b = true) : valL l < 10 ^ l.length := by
  induction l using snoc_ind with
  | h0 => simp [valL]
  | h1 l b ih =>
    have h1 := ih (fun x hx => h x (by simp [hx]))
    have h2 := dig_nat (h b (by simp))
    rw [val_snoc, List.length_append, List.length_singleton, Nat.pow_succ]; omega
theorem val_pos (l : List UInt8) (hl : l ≠ []) (h : ∀ b ∈ l, isDig b = true) (hh : l.head? ≠ some 48) : 1 ≤ valL l := by
  induction l using snoc_ind with
  | h0 => exact absurd rfl hl
  | h1 l b ih =>
    have h2 := dig_nat (h b (by simp))
    rw [val_snoc]
    by_cases e : l = []
    · subst e
      have hb : b ≠ 48 := fun e => hh (by simp [e])
      have : b.toNat ≠ 48 := fun e => hb (UInt8.toNat_inj.1 e)
      omega
    · have := ih e (fun x hx => h x (by simp [hx])) (by rwa [head_front _ _ e] at hh)
      omega
theorem dec_val (l : List UInt8) (hl : l ≠ []) (h : ∀ b ∈ l, isDig b = true) (hh : l.length = 1 ∨ l.head? ≠ some 48) : dec (valL l) = l := by
  induction l using snoc_ind with
  | h0 => exact absurd rfl hl
  | h1 l b ih =>
    have hb := h b (by simp)
    have h2 := dig_nat hb
    have hd : ∀ x ∈ l, isDig x = true := fun x hx => h x (by simp [hx])
    rw [val_snoc]
    by_cases e : l = []
    · subst e
      have e0 : valL [] = 0 := rfl
      rw [dec_small (by rw [e0]; omega), dgt_of_dig hb]; rfl
    · have hh2 : l.head? ≠ some 48 := by
        rcases hh with h1 | h1
        · simp only [List.length_append, List.length_singleton] at h1
          exact absurd (List.eq_nil_of_length_eq_zero (by omega)) e
        · rwa [head_front _ _ e] at h1
      have hp := val_pos l e hd hh2
      rw [dec_big (by omega), dgt_of_dig hb]
      have : (10 * valL l + (b.toNat - 48)) / 10 = valL l := by omega
      rw [this, ih e hd (.inr hh2)]

/-! ### What is told of a text -/
def numL (n : Int) : List UInt8 := if 0 ≤ n ∧ n ≤ 999999 then dec n.toNat else []
def getB (l : List UInt8) : Bool := decide (valL l ≤ 999999) && (dec (valL l) == l)
def getN (l : List UInt8) : Int := if getB l then (valL l : Int) else 0

theorem getB_parts {l : List UInt8} (h : getB l = true) : valL l ≤ 999999 ∧ dec (valL l) = l := by
  unfold getB at h
  rw [Bool.and_eq_true, decide_eq_true_eq, beq_iff_eq] at h
  exact h
theorem getB_mk {l : List UInt8} (h1 : valL l ≤ 999999) (h2 : dec (valL l) = l) : getB l = true := by
  unfold getB
  rw [Bool.and_eq_true, decide_eq_true_eq, beq_iff_eq]
  exact ⟨h1, h2⟩
theorem getB_dec {n : Nat} (h : n ≤ 999999) : getB (dec n) = true := getB_mk (by rw [val_dec]; exact h) (by rw [val_dec])
theorem getN_dec {n : Nat} (h : n ≤ 999999) : getN (dec n) = n := by unfold getN; rw [if_pos (getB_dec h), val_dec]
theorem numL_in {n : Int} (h0 : 0 ≤ n) (h1 : n ≤ 999999) : numL n = dec n.toNat := if_pos ⟨h0, h1⟩
theorem numL_out {n : Int} (h : ¬ (0 ≤ n ∧ n ≤ 999999)) : numL n = [] := if_neg h
theorem getN_yes {l : List UInt8} (h : getB l = true) : getN l = (valL l : Int) := by unfold getN; rw [if_pos h]
theorem getN_no {l : List UInt8} (h : getB l = false) : getN l = 0 := by unfold getN; rw [h]; rfl
theorem num_get {l : List UInt8} (h : getB l = true) : numL (getN l) = l := by
  have := getB_parts h
  rw [getN_yes h, numL_in (by omega) (by omega)]
  exact this.2
theorem num_not {l : List UInt8} (h : getB l = false) (h0 : l ≠ []) (n : Int) : numL n ≠ l := fun e => by
  by_cases hr : 0 ≤ n ∧ n ≤ 999999
  · rw [numL_in hr.1 hr.2] at e
    have := getB_dec (n := n.toNat) (by omega)
    rw [e, h] at this
    cases this
  · rw [numL_out hr] at e
    exact h0 e.symm
theorem getB_digs {l : List UInt8} (h : getB l = true) : ∀ b ∈ l, isDig b = true := by
  have := (getB_parts h).2
  rw [← this]; exact dec_digs _
theorem getB_len {l : List UInt8} (h : getB l = true) : 1 ≤ l.length ∧ l.length ≤ 6 ∧ (1 < l.length → l.head? ≠ some 48) := by
  obtain ⟨h1, h2⟩ := getB_parts h
  have h3 := dec_len (k := 5) (n := valL l) (by omega)
  have h4 := dec_ne (valL l)
  rw [h2] at h3 h4
  refine ⟨?_, h3, fun hl => ?_⟩
  · rcases Nat.eq_zero_or_pos l.length with h5 | h5
    · exact absurd (List.eq_nil_of_length_eq_zero h5) h4
    · exact h5
  · rw [← h2]
    refine dec_head _ ?_
    rcases Nat.eq_zero_or_pos (valL l) with h5 | h5
    · rw [h5] at h2
      rw [← h2, dec_small (by omega)] at hl
      simp at hl
    · exact h5
theorem getB_of {l : List UInt8} (h1 : 1 ≤ l.length) (h6 : l.length ≤ 6) (hh : 1 < l.length → l.head? ≠ some 48) (hd : ∀ b ∈ l, isDig b = true) : getB l = true := by
  have hv := val_lt l hd
  have : 10 ^ l.length ≤ 10 ^ 6 := Nat.pow_le_pow_right (by omega) h6
  refine getB_mk (by omega) (dec_val l (by intro e; rw [e] at h1; simp at h1) hd ?_)
  by_cases e : l.length = 1
  · exact .inl e
  · exact .inr (hh (by omega))

/-! ### Runes -/
theorem get_lt (s : ByteArray) (k : Nat) (h : k < s.size) : s.get! k = s[k]'h := by
  simp [ByteArray.get!, getElem!_pos, h]; rfl

/-- A rune beyond one byte: it is no ASCII, and all its bytes are high. -/
theorem rune_high (s : ByteArray) (pos : Nat) (h : pos < s.size) (ha : 128 ≤ (s[pos]'h).toNat) :
    128 ≤ (Utf8.decode s pos).1 ∧ 1 ≤ (Utf8.decode s pos).2 ∧ pos + (Utf8.decode s pos).2 ≤ s.size ∧
      ∀ j, pos ≤ j → j < pos + (Utf8.decode s pos).2 → 128 ≤ (s.get! j).toNat := by
  have hw : pos + (Utf8.decode s pos).2 ≤ s.size ∧ ∀ j, pos ≤ j → j < pos + (Utf8.decode s pos).2 → 128 ≤ (s.get! j).toNat := by
    have hn : ¬ (s[pos]'h).toNat < 128 := by omega
    have hp : 128 ≤ (s.get! pos).toNat := by rw [get_lt s pos h]; exact ha
    have one : pos + 1 ≤ s.size ∧ ∀ j, pos ≤ j → j < pos + 1 → 128 ≤ (s.get! j).toNat := ⟨h, fun j h1 h2 => by
      obtain rfl : j = pos := by omega
      exact hp⟩
    simp only [Utf8.decode, get_at s pos h, hn, if_false]
    split
    · rename_i hc
      simp only [Bool.and_eq_true, decide_eq_true_eq, beq_iff_eq] at hc
      obtain ⟨_, h1, h2⟩ := hc
      split
      · refine ⟨by show pos + 2 ≤ _; omega, fun j j1 j2 => ?_⟩
        have j3 : j < pos + 2 := j2
        by_cases e : j = pos
        · rw [e]; exact hp
        · obtain rfl : j = pos + 1 := by omega
          omega
      · exact one
    · split
      · rename_i hc
        simp only [Bool.and_eq_true, decide_eq_true_eq, beq_iff_eq] at hc
        obtain ⟨⟨_, h1, h2⟩, h3, h4⟩ := hc
        split
        · refine ⟨by show pos + 3 ≤ _; omega, fun j j1 j2 => ?_⟩
          have j3 : j < pos + 3 := j2
          by_cases e : j = pos
          · rw [e]; exact hp
          · by_cases e1 : j = pos + 1
            · rw [e1]; omega
            · obtain rfl : j = pos + 2 := by omega
              omega
        · exact one
      · split
        · rename_i hc
          simp only [Bool.and_eq_true, decide_eq_true_eq, beq_iff_eq] at hc
          obtain ⟨⟨⟨_, h1, h2⟩, h3, h4⟩, h5, h6⟩ := hc
          split
          · refine ⟨by show pos + 4 ≤ _; omega, fun j j1 j2 => ?_⟩
            have j3 : j < pos + 4 := j2
            by_cases e : j = pos
            · rw [e]; exact hp
            · by_cases e1 : j = pos + 1
              · rw [e1]; omega
              · by_cases e2 : j = pos + 2
                · rw [e2]; omega
                · obtain rfl : j = pos + 3 := by omega
                  omega
          · exact one
        · exact one
  have h0 := decode_high s pos h ha
  exact ⟨h0.1, h0.2, hw.1, hw.2⟩

/-- The bytes of a rune, in the text. -/
theorem take_rune (s : ByteArray) (p w : Nat) : (bl s).take (p + w) = (bl s).take p ++ ((bl s).drop p).take w := by
  rw [List.take_add]
theorem high_free (s : ByteArray) (p w : Nat) (hs : p + w ≤ s.size) (h : ∀ j, p ≤ j → j < p + w → 128 ≤ (s.get! j).toNat) (c : UInt8) (hc : c.toNat < 128) : c ∉ ((bl s).drop p).take w := fun hm => by
  obtain ⟨i, hi, he⟩ := List.getElem_of_mem hm
  have hi2 : i < w := by simp only [List.length_take] at hi; omega
  have := h (p + i) (by omega) (by omega)
  rw [get_lt s (p + i) (by omega)] at this
  have e2 : ((bl s).drop p)[i]? = some (s[p + i]'(by omega)) := by rw [List.getElem?_drop, bl_get s (p + i) (by omega)]
  rw [List.getElem_take] at he
  rw [List.getElem?_eq_getElem (by simp only [List.length_take] at hi; omega)] at e2
  rw [Option.some.inj e2] at he
  rw [he] at this
  omega

end Go.Proofs.YtmlflmlgjjjmfaaDoor
