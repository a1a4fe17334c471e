/-
  What stands in a sector: its numbers, its bytes; apart from any program.
-/
import Derived.Test.YtjokaaekliapmaaDoorBMem
namespace Go.Proofs.YtjokaaekliapmaaDoor
open Go.RowKit

/-- A sector. -/
structure Sec where
  g : Int
  p : Int
  t : Int
  k : Int
  b : List UInt8
def Sec.z : Sec := ⟨0, 0, 0, 0, []⟩
def secv (s : Sec) (A : Option Addr) (n c : Nat) : Value := .agg #[.int .i64 s.g, .int .i64 s.p, .int .i64 s.t, .int .i64 s.k, .slice A n c]
def withinI (n a b : Int) : Bool := decide (a ≤ n) && decide (n ≤ b)
def rightQ (s : Sec) : Bool := decide (1 ≤ s.g) && decide (s.g ≤ 281474976710656) && withinI s.p 0 4096 && withinI s.t 1 32 && withinI s.k 0 1000 && withinI s.b.length 1 50
theorem right_q {s : Sec} : rightQ s = true ↔ 1 ≤ s.g ∧ s.g ≤ 281474976710656 ∧ 0 ≤ s.p ∧ s.p ≤ 4096 ∧ 1 ≤ s.t ∧ s.t ≤ 32 ∧ 0 ≤ s.k ∧ s.k ≤ 1000 ∧ 1 ≤ s.b.length ∧ s.b.length ≤ 50 := by
  simp [rightQ, withinI, and_assoc]; omega
theorem right_no {s : Sec} (h : ¬ (1 ≤ s.g ∧ s.g ≤ 281474976710656 ∧ 0 ≤ s.p ∧ s.p ≤ 4096 ∧ 1 ≤ s.t ∧ s.t ≤ 32 ∧ 0 ≤ s.k ∧ s.k ≤ 1000 ∧ 1 ≤ s.b.length ∧ s.b.length ≤ 50)) : rightQ s = false := by
  rw [Bool.eq_false_iff]; exact fun e => h (right_q.1 e)
def headQ (s : Sec) : List UInt8 := beN 8 s.g.toNat ++ (beN 2 s.p.toNat ++ (beN 1 s.t.toNat ++ (beN 2 s.k.toNat ++ beN 1 s.b.length)))
theorem head_len (s : Sec) : (headQ s).length = 14 := by simp [headQ, beN_len]
def laidQ (s : Sec) : List UInt8 := headQ s ++ (s.b ++ List.replicate (50 - s.b.length) 0)
def putQ (s : Sec) : List UInt8 := if rightQ s = true then laidQ s else []
theorem putq_yes {s : Sec} (h : rightQ s = true) : putQ s = laidQ s := if_pos h
theorem putq_no {s : Sec} (h : rightQ s = false) : putQ s = [] := if_neg (by rw [h]; decide)
theorem laidq_len {s : Sec} (h : s.b.length ≤ 50) : (laidQ s).length = 64 := by
  unfold laidQ
  rw [List.length_append, head_len, List.length_append, List.length_replicate]; omega
theorem putq_len {s : Sec} (h : rightQ s = true) : (putQ s).length = 64 := by rw [putq_yes h, laidq_len (right_q.1 h).2.2.2.2.2.2.2.2.2]
theorem putq_max (s : Sec) : (putQ s).length ≤ 64 := by
  by_cases h : rightQ s = true
  · rw [putq_len h]; decide
  · rw [putq_no (by simpa using h)]; simp
/-- What bytes are read as. -/
def secQ (l : List UInt8) : Sec := ⟨(rdN (l.take 8) : Nat), (rdN ((l.drop 8).take 2) : Nat), (rdN ((l.drop 10).take 1) : Nat), (rdN ((l.drop 11).take 2) : Nat), (l.drop 14).take (rdN ((l.drop 13).take 1))⟩
def okQ (l : List UInt8) : Bool := decide (l.length = 64) && decide (rdN ((l.drop 13).take 1) ≤ 50) && ((l.drop (14 + rdN ((l.drop 13).take 1))).all fun b => b == 0) && rightQ (secQ l)
theorem ok_q {l : List UInt8} : okQ l = true ↔ l.length = 64 ∧ rdN ((l.drop 13).take 1) ≤ 50 ∧ (∀ b ∈ l.drop (14 + rdN ((l.drop 13).take 1)), b = 0) ∧ rightQ (secQ l) = true := by
  simp [okQ, and_assoc]
theorem okq_no {l : List UInt8} (h : ¬ (l.length = 64 ∧ rdN ((l.drop 13).take 1) ≤ 50 ∧ (∀ b ∈ l.drop (14 + rdN ((l.drop 13).take 1)), b = 0) ∧ rightQ (secQ l) = true)) : okQ l = false := by
  rw [Bool.eq_false_iff]; exact fun e => h (ok_q.1 e)
def getQ (l : List UInt8) : Sec := if okQ l = true then secQ l else Sec.z
theorem getq_yes {l : List UInt8} (h : okQ l = true) : getQ l = secQ l := if_pos h
theorem getq_no {l : List UInt8} (h : okQ l = false) : getQ l = Sec.z := if_neg (by rw [h]; decide)
theorem app_take {a b : List UInt8} {n : Nat} (h : a.length = n) : (a ++ b).take n = a := by rw [← h]; exact List.take_left
theorem app_drop {a b : List UInt8} {n : Nat} (h : a.length = n) : (a ++ b).drop n = b := by rw [← h]; exact List.drop_left
theorem laidq_parts (s : Sec) : (laidQ s).take 8 = beN 8 s.g.toNat ∧ ((laidQ s).drop 8).take 2 = beN 2 s.p.toNat ∧ ((laidQ s).drop 10).take 1 = beN 1 s.t.toNat ∧ ((laidQ s).drop 11).take 2 = beN 2 s.k.toNat ∧ ((laidQ s).drop 13).take 1 = beN 1 s.b.length ∧ (laidQ s).drop 14 = s.b ++ List.replicate (50 - s.b.length) 0 := by
  have e : laidQ s = beN 8 s.g.toNat ++ (beN 2 s.p.toNat ++ (beN 1 s.t.toNat ++ (beN 2 s.k.toNat ++ (beN 1 s.b.length ++ (s.b ++ List.replicate (50 - s.b.length) 0))))) := by
    simp [laidQ, headQ]
  have d8 : (laidQ s).drop 8 = beN 2 s.p.toNat ++ (beN 1 s.t.toNat ++ (beN 2 s.k.toNat ++ (beN 1 s.b.length ++ (s.b ++ List.replicate (50 - s.b.length) 0)))) := by rw [e]; exact app_drop (beN_len _ _)
  have d10 : (laidQ s).drop 10 = beN 1 s.t.toNat ++ (beN 2 s.k.toNat ++ (beN 1 s.b.length ++ (s.b ++ List.replicate (50 - s.b.length) 0))) := by
    rw [show 10 = 8 + 2 from rfl, ← List.drop_drop, d8]; exact app_drop (beN_len _ _)
  have d11 : (laidQ s).drop 11 = beN 2 s.k.toNat ++ (beN 1 s.b.length ++ (s.b ++ List.replicate (50 - s.b.length) 0)) := by
    rw [show 11 = 10 + 1 from rfl, ← List.drop_drop, d10]; exact app_drop (beN_len _ _)
  have d13 : (laidQ s).drop 13 = beN 1 s.b.length ++ (s.b ++ List.replicate (50 - s.b.length) 0) := by
    rw [show 13 = 11 + 2 from rfl, ← List.drop_drop, d11]; exact app_drop (beN_len _ _)
  have d14 : (laidQ s).drop 14 = s.b ++ List.replicate (50 - s.b.length) 0 := by
    rw [show 14 = 13 + 1 from rfl, ← List.drop_drop, d13]; exact app_drop (beN_len _ _)
  refine ⟨by rw [e]; exact app_take (beN_len _ _), by rw [d8]; exact app_take (beN_len _ _), by rw [d10]; exact app_take (beN_len _ _), by rw [d11]; exact app_take (beN_len _ _), by rw [d13]; exact app_take (beN_len _ _), d14⟩
theorem getq_put {s : Sec} (h : rightQ s = true) : okQ (putQ s) = true ∧ secQ (putQ s) = s := by
  obtain ⟨h1, h2, h3, h4, h5, h6, h7, h8, h9, h10⟩ := right_q.1 h
  rw [putq_yes h]
  obtain ⟨e1, e2, e3, e4, e5, e6⟩ := laidq_parts s
  have r5 : rdN (beN 1 s.b.length) = s.b.length := rd_be (by show _ < 256 ^ 1; omega)
  have sec : secQ (laidQ s) = s := by
    unfold secQ
    rw [e1, e2, e3, e4, e5, e6, rd_be (by show _ < 256 ^ 8; omega), rd_be (by show _ < 256 ^ 2; omega), rd_be (by show _ < 256 ^ 1; omega), rd_be (by show _ < 256 ^ 2; omega), r5, app_take rfl, Int.toNat_of_nonneg (by omega), Int.toNat_of_nonneg h3, Int.toNat_of_nonneg (by omega), Int.toNat_of_nonneg h7]
  refine ⟨ok_q.2 ⟨laidq_len h10, by rw [e5, r5]; exact h10, fun b hb => ?_, by rw [sec]; exact h⟩, sec⟩
  rw [e5, r5, ← List.drop_drop, e6, app_drop rfl] at hb
  exact List.eq_of_mem_replicate hb
theorem cut1 (l : List UInt8) (a n : Nat) (h : a + n ≤ l.length) : beN n (rdN ((l.drop a).take n)) = (l.drop a).take n := by
  have := be_rd ((l.drop a).take n)
  rwa [List.length_take, List.length_drop, Nat.min_eq_left (by omega)] at this
theorem putq_get {l : List UInt8} (h : okQ l = true) : rightQ (secQ l) = true ∧ putQ (secQ l) = l := by
  obtain ⟨h1, h2, h3, h4⟩ := ok_q.1 h
  refine ⟨h4, ?_⟩
  rw [putq_yes h4]
  obtain ⟨n, hn⟩ : ∃ n, n = rdN ((l.drop 13).take 1) := ⟨_, rfl⟩
  rw [← hn] at h2 h3
  have bl : ((l.drop 14).take n).length = n := by rw [List.length_take, List.length_drop]; omega
  have b0 : l.take 8 = (l.drop 0).take 8 := by rw [List.drop_zero]
  unfold laidQ headQ secQ
  simp only [Int.toNat_natCast]
  rw [← hn, bl, b0, cut1 l 0 8 (by omega), cut1 l 8 2 (by omega), cut1 l 10 1 (by omega), cut1 l 11 2 (by omega), hn, cut1 l 13 1 (by omega), ← hn]
  have z : List.replicate (50 - n) (0 : UInt8) = l.drop (14 + n) := by
    refine (List.eq_replicate_iff.2 ⟨by rw [List.length_drop]; omega, h3⟩).symm
  rw [z, ← List.drop_drop, List.take_append_drop]
  have t : ∀ a k, (l.drop a).take k ++ l.drop (a + k) = l.drop a := fun a k => by rw [← List.drop_drop]; exact List.take_append_drop _ _
  simp only [List.append_assoc]
  rw [t 13 1, t 11 2, t 10 1, t 8 2, t 0 8, List.drop_zero]
theorem okq_put (s : Sec) : okQ (putQ s) = rightQ s := by
  by_cases h : rightQ s = true
  · rw [h]; exact (getq_put h).1
  · have h : rightQ s = false := by simpa using h
    rw [h, putq_no h]; rfl

theorem okq_len {l : List UInt8} (h : ¬ l.length = 64) : okQ l = false := okq_no (fun z => h z.1)
theorem rd_zeros : ∀ n, rdN (List.replicate n 0) = 0
  | 0 => rfl
  | n + 1 => by rw [List.replicate_succ, rd_cons, rd_zeros n]; simp
theorem okq_noughts (n : Nat) : okQ (List.replicate n 0) = false := okq_no (fun ⟨_, _, _, h4⟩ => by
  have := (right_q.1 h4).1
  unfold secQ at this
  rw [List.take_replicate, rd_zeros] at this
  have this : (1 : Int) ≤ 0 := this
  omega)
theorem set_same {l : List UInt8} {k : Nat} {x : UInt8} (h : l[k]? = some x) : l.set k x = l := by
  obtain ⟨hk, e⟩ := List.getElem?_eq_some_iff.1 h
  rw [← e]; exact List.set_getElem_self hk
theorem laidq_zero {s : Sec} (h : s.b.length ≤ 50) {k : Nat} (h1 : 14 + s.b.length ≤ k) (h2 : k < 64) : (laidQ s)[k]? = some 0 := by
  unfold laidQ
  rw [List.getElem?_append_right (by rw [head_len]; omega), head_len, List.getElem?_append_right (by omega)]
  rw [List.getElem?_replicate, if_pos (by omega)]
theorem okq_set {s : Sec} (h : rightQ s = true) {k : Nat} (h1 : 14 + s.b.length ≤ k) (h2 : k < 64) (c : UInt8) : okQ ((putQ s).set k c) = (c == 0) := by
  have hb : s.b.length ≤ 50 := by have := right_q.1 h; omega
  by_cases hc : c = 0
  · subst hc
    rw [set_same (by rw [putq_yes h]; exact laidq_zero hb h1 h2), (getq_put h).1]; rfl
  · have e : (c == 0) = false := by simpa using hc
    rw [e]
    refine okq_no (fun ⟨z1, z2, z3, _⟩ => hc ?_)
    rw [putq_yes h] at z3 z2
    have d : ((laidQ s).set k c).drop 13 = ((laidQ s).drop 13).set (k - 13) c := by rw [List.drop_set, if_neg (by omega)]
    have t1 : (((laidQ s).set k c).drop 13).take 1 = ((laidQ s).drop 13).take 1 := by
      rw [d, List.take_set_of_le (by omega)]
    rw [t1, (laidq_parts s).2.2.2.2.1, rd_be (by show _ < 256 ^ 1; omega)] at z3
    refine z3 c (List.mem_of_getElem? (i := k - (14 + s.b.length)) ?_)
    rw [List.getElem?_drop, show 14 + s.b.length + (k - (14 + s.b.length)) = k by omega, List.getElem?_set_self (by rw [laidq_len hb]; exact h2)]

end Go.Proofs.YtjokaaekliapmaaDoor
