/-
  Numbers as bytes, the greatest part first; the order of texts: apart from any program.
-/
import Derived.Test.YtjokaaekliapmaaDoorBase
import Derived.Laws.Strings
import Derived.Laws.IdiomStrings
namespace Go.Proofs.YtjokaaekliapmaaDoor
open Go.RowKit

/-- A number in so many bytes, the greatest part first. -/
def beN : Nat → Nat → List UInt8
  | 0, _ => []
  | k + 1, n => UInt8.ofNat (n / 256 ^ k) :: beN k n
/-- The number of some bytes. -/
def rdN (l : List UInt8) : Nat := l.foldl (fun n b => n * 256 + b.toNat) 0
theorem beN_len : ∀ k n, (beN k n).length = k
  | 0, _ => rfl
  | k + 1, n => by rw [beN, List.length_cons, beN_len]
theorem rd_from : ∀ (l : List UInt8) (a : Nat), l.foldl (fun n b => n * 256 + b.toNat) a = a * 256 ^ l.length + rdN l
  | [], a => by simp [rdN]
  | b :: l, a => by
    unfold rdN
    rw [List.foldl_cons, List.foldl_cons, rd_from l, rd_from l (0 * 256 + b.toNat), List.length_cons, Nat.pow_succ]
    grind
theorem rd_cons (b : UInt8) (l : List UInt8) : rdN (b :: l) = b.toNat * 256 ^ l.length + rdN l := by
  show (b :: l).foldl _ 0 = _
  rw [List.foldl_cons, rd_from]; simp
theorem rd_app (a b : List UInt8) : rdN (a ++ b) = rdN a * 256 ^ b.length + rdN b := by
  show (a ++ b).foldl _ 0 = _
  rw [List.foldl_append, rd_from]; rfl
theorem rd_nil : rdN [] = 0 := rfl
theorem rd_snoc (l : List UInt8) (b : UInt8) : rdN (l ++ [b]) = rdN l * 256 + b.toNat := by
  rw [rd_app]; show _ * 256 ^ 1 + (0 * 256 + b.toNat) = _; simp
theorem rd_lt : ∀ l : List UInt8, rdN l < 256 ^ l.length
  | [] => by decide
  | b :: l => by
    rw [rd_cons, List.length_cons, Nat.pow_succ]
    have h1 := rd_lt l
    have h2 := b.toNat_lt
    have : b.toNat * 256 ^ l.length ≤ 255 * 256 ^ l.length := Nat.mul_le_mul_right _ (by omega)
    omega
theorem be_mod : ∀ k n, rdN (beN k n) = n % 256 ^ k
  | 0, n => by simp [beN, rdN, Nat.mod_one]
  | k + 1, n => by
    have e : n % 256 ^ (k + 1) = n % 256 ^ k + 256 ^ k * (n / 256 ^ k % 256) := by rw [Nat.pow_succ]; exact Nat.mod_mul
    rw [beN, rd_cons, beN_len, be_mod k n, UInt8.toNat_ofNat', e]
    show n / 256 ^ k % 256 * _ + _ = _
    rw [Nat.mul_comm]; omega
theorem rd_be {k n : Nat} (h : n < 256 ^ k) : rdN (beN k n) = n := by rw [be_mod, Nat.mod_eq_of_lt h]
theorem be_of_mod : ∀ k n m, n % 256 ^ k = m % 256 ^ k → beN k n = beN k m
  | 0, _, _, _ => rfl
  | k + 1, n, m, h => by
    have h2 : n % 256 ^ k = m % 256 ^ k := by
      have a1 : n % 256 ^ (k + 1) % 256 ^ k = n % 256 ^ k := by rw [Nat.pow_succ]; exact Nat.mod_mul_right_mod _ _ _
      have a2 : m % 256 ^ (k + 1) % 256 ^ k = m % 256 ^ k := by rw [Nat.pow_succ]; exact Nat.mod_mul_right_mod _ _ _
      rw [← a1, ← a2, h]
    have h3 : n / 256 ^ k % 256 = m / 256 ^ k % 256 := by
      rw [Nat.pow_succ, Nat.mod_mul, Nat.mod_mul, h2] at h
      have hp : 0 < 256 ^ k := Nat.pow_pos (by decide)
      exact Nat.eq_of_mul_eq_mul_left hp (by omega)
    rw [beN, beN, be_of_mod k n m h2]
    congr 1
    apply UInt8.toNat_inj.1
    rw [UInt8.toNat_ofNat', UInt8.toNat_ofNat']
    exact h3
theorem be_rd : ∀ l : List UInt8, beN l.length (rdN l) = l
  | [] => rfl
  | b :: l => by
    have hp : 0 < 256 ^ l.length := Nat.pow_pos (by decide)
    have h1 := rd_lt l
    rw [List.length_cons, beN, rd_cons]
    have e1 : (b.toNat * 256 ^ l.length + rdN l) / 256 ^ l.length = b.toNat := by
      rw [Nat.mul_comm, Nat.mul_add_div hp, Nat.div_eq_of_lt h1]; rfl
    have e2 : beN l.length (b.toNat * 256 ^ l.length + rdN l) = beN l.length (rdN l) := be_of_mod _ _ _ (by
      rw [Nat.mul_comm, Nat.mul_add_mod])
    rw [e1, e2, be_rd l]
    congr 1
    exact UInt8.ofNat_toNat
theorem be_inj {k n m : Nat} (hn : n < 256 ^ k) (hm : m < 256 ^ k) (h : beN k n = beN k m) : n = m := by rw [← rd_be hn, ← rd_be hm, h]
theorem be_get {k n i : Nat} (h : i < k) : (beN k n)[i]? = some (UInt8.ofNat (n / 256 ^ (k - 1 - i))) := by
  induction k generalizing i with
  | zero => omega
  | succ k ih =>
    rw [beN]
    match i with
    | 0 => rw [List.getElem?_cons_zero]; rfl
    | i + 1 => rw [List.getElem?_cons_succ, ih (by omega)]; congr 4; omega
/-- Bytes, in the order of texts. -/
theorem less_nil (l : List UInt8) : Op.bytesLess l [] = false := by cases l <;> rfl
theorem less_self : ∀ l : List UInt8, Op.bytesLess l l = false
  | [] => rfl
  | b :: l => by
    rw [Op.bytesLess, less_self l]; simp
theorem less_app : ∀ (a : List UInt8) (x y : List UInt8), Op.bytesLess (a ++ x) (a ++ y) = Op.bytesLess x y
  | [], _, _ => rfl
  | b :: a, x, y => by
    rw [List.cons_append, List.cons_append, Op.bytesLess, less_app a x y]; simp
theorem less_be : ∀ (k n m : Nat) (x y : List UInt8), n < 256 ^ k → m < 256 ^ k → Op.bytesLess (beN k n ++ x) (beN k m ++ y) = (decide (n < m) || (n == m) && Op.bytesLess x y)
  | 0, n, m, x, y, hn, hm => by
    have : n = 0 := by simpa using hn
    have : m = 0 := by simpa using hm
    subst_vars; simp [beN]
  | k + 1, n, m, x, y, hn, hm => by
    have hp : 0 < 256 ^ k := Nat.pow_pos (by decide)
    have qn : n / 256 ^ k < 256 := Nat.div_lt_of_lt_mul (by rw [← Nat.pow_succ]; exact hn)
    have qm : m / 256 ^ k < 256 := Nat.div_lt_of_lt_mul (by rw [← Nat.pow_succ]; exact hm)
    have dn := Nat.div_add_mod n (256 ^ k)
    have dm := Nat.div_add_mod m (256 ^ k)
    have rn := Nat.mod_lt n hp
    have rm := Nat.mod_lt m hp
    obtain ⟨a, ha⟩ : ∃ a, a = n / 256 ^ k := ⟨_, rfl⟩
    obtain ⟨b, hb⟩ : ∃ b, b = m / 256 ^ k := ⟨_, rfl⟩
    obtain ⟨c, hc⟩ : ∃ c, c = n % 256 ^ k := ⟨_, rfl⟩
    obtain ⟨d, hd⟩ : ∃ d, d = m % 256 ^ k := ⟨_, rfl⟩
    rw [beN, beN, List.cons_append, List.cons_append, Op.bytesLess, be_of_mod k n c (by rw [hc, Nat.mod_mod]), be_of_mod k m d (by rw [hd, Nat.mod_mod]), less_be k c d x y (by omega) (by omega), ← ha, ← hb]
    rw [← ha, ← hc] at dn
    rw [← hb, ← hd] at dm
    have u1 : (UInt8.ofNat a).toNat = a := by rw [UInt8.toNat_ofNat']; omega
    have u2 : (UInt8.ofNat b).toNat = b := by rw [UInt8.toNat_ofNat']; omega
    rw [← hc] at rn
    rw [← hd] at rm
    obtain ⟨P, hP⟩ : ∃ P, P = 256 ^ k := ⟨_, rfl⟩
    rw [← hP] at dn dm rn rm
    by_cases e : a = b
    · subst e
      have z1 : decide (n < m) = decide (c < d) := decide_eq_decide.2 (by omega)
      have z2 : (n == m) = (c == d) := by rw [Bool.eq_iff_iff, beq_iff_eq, beq_iff_eq]; omega
      rw [z1, z2]; simp
    · have hne : ¬ UInt8.ofNat a = UInt8.ofNat b := fun h => e (by rw [← u1, ← u2, h])
      have z2 : (n == m) = false := by
        rw [beq_eq_false_iff_ne]
        rintro rfl
        exact e (by rw [ha, hb])
      rw [z2, Bool.false_and, Bool.or_false]
      have lt : (UInt8.ofNat a < UInt8.ofNat b) ↔ a < b := by rw [UInt8.lt_iff_toNat_lt, u1, u2]
      have z1 : decide (n < m) = decide (a < b) := decide_eq_decide.2 (by
        constructor
        · intro h
          rcases Nat.lt_or_ge a b with q | q
          · exact q
          · have : b + 1 ≤ a := by omega
            have := Nat.mul_le_mul_left P this
            rw [Nat.mul_add] at this
            omega
        · intro h
          have := Nat.mul_le_mul_left P h
          rw [Nat.mul_succ] at this
          omega)
      rw [z1]
      by_cases q : a < b
      · simp [lt, q]
      · simp [lt, q, hne]

end Go.Proofs.YtjokaaekliapmaaDoor
