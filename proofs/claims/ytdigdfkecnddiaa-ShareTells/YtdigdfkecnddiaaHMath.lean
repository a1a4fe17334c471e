/-
  A row as two, whose sum it is: apart from any program.
-/
import Derived.Test.YtdigdfkecnddiaaNRow
import Derived.Test.YtdigdfkecnddiaaSMath
namespace Go.Proofs.Ytdigdfkecnddiaa
open Go.RowKit

/-- The first part: the seed's numbers, as many as the row has. -/
def splA (s : UInt64) (xs : List UInt64) : List UInt64 := rowN s 0 (xs.length : Int)
/-- The second part: the row less the first one. -/
def splB (s : UInt64) (xs : List UInt64) : List UInt64 := subR xs (splA s xs)
/-- A party's part of what both know. -/
def partN (who : Int) (xs : List UInt64) : List UInt64 := if who = 0 then xs else List.replicate xs.length 0
theorem zip_len {g : UInt64 → UInt64 → UInt64} {a b : List UInt64} (h : a.length = b.length) : (List.zipWith g a b).length = a.length := by simp [h]
theorem splA_len {s : UInt64} {xs : List UInt64} (h : xs.length ≤ 4096) : (splA s xs).length = xs.length := by
  unfold splA rowN
  rw [if_pos (by omega), srow_len]; omega
theorem splA_le (s : UInt64) (xs : List UInt64) : (splA s xs).length ≤ 4096 := by
  unfold splA rowN
  split
  · rw [srow_len]; omega
  · simp
theorem splA_no {s : UInt64} {xs : List UInt64} (h : 4096 < xs.length) : splA s xs = [] := by
  unfold splA rowN
  rw [if_neg (by omega)]
theorem splB_no {s : UInt64} {xs : List UInt64} (h : 4096 < xs.length) : splB s xs = [] := by
  unfold splB subR
  rw [splA_no h]; simp
theorem splB_len {s : UInt64} {xs : List UInt64} (h : xs.length ≤ 4096) : (splB s xs).length = xs.length := zip_len (splA_len h).symm
theorem splB_le (s : UInt64) (xs : List UInt64) : (splB s xs).length ≤ 4096 := by
  have := splA_le s xs
  unfold splB subR
  simp; omega
theorem splA_same {s : UInt64} {xs ys : List UInt64} (h : xs.length = ys.length) : splA s xs = splA s ys := by unfold splA; rw [h]
theorem part_yes (xs : List UInt64) : partN 0 xs = xs := if_pos rfl
theorem part_no {who : Int} (h : who ≠ 0) (xs : List UInt64) : partN who xs = List.replicate xs.length 0 := if_neg h
theorem part_len (who : Int) (xs : List UInt64) : (partN who xs).length = xs.length := by
  unfold partN
  split <;> simp
theorem scl_one (xs : List UInt64) : sclR 1 xs = xs := by unfold sclR; simp
theorem scl_zero (xs : List UInt64) : sclR 0 xs = List.replicate xs.length 0 := by
  unfold sclR
  apply List.ext_getElem <;> simp
theorem u_join (x r : UInt64) : r + (x - r) = x := by grind
theorem join_ab {s : UInt64} {xs : List UInt64} (h : xs.length ≤ 4096) : addR (splA s xs) (splB s xs) = xs := by
  have l := splA_len (s := s) h
  unfold splB
  generalize splA s xs = r at l
  apply List.ext_getElem
  · simp [addR, subR, l]
  · intro i h1 h2
    simp [addR, subR, u_join]
theorem join_ba {s : UInt64} {xs : List UInt64} (h : xs.length ≤ 4096) : addR (splB s xs) (splA s xs) = xs := by
  have l := splA_len (s := s) h
  unfold splB
  generalize splA s xs = r at l
  apply List.ext_getElem
  · simp [addR, subR, l]
  · intro i h1 h2
    simp [addR, subR]
theorem masks_b {s : UInt64} {xs ys : List UInt64} (h : xs.length ≤ 4096) (e : xs.length = ys.length) : subR (splB s xs) (splB s ys) = subR xs ys := by
  have l := splA_len (s := s) h
  unfold splB
  rw [← splA_same (s := s) e]
  generalize splA s xs = r at l
  apply List.ext_getElem
  · simp [subR, l, e]
  · intro i h1 h2
    simp only [subR, List.getElem_zipWith]
    grind
theorem any_b {s : UInt64} {bs : List UInt64} (h : bs.length ≤ 4096) : splB s (addR (rowN s 0 (bs.length : Int)) bs) = bs := by
  have l := splA_len (s := s) h
  have e : (addR (splA s bs) bs).length = bs.length := by unfold addR; rw [zip_len l, l]
  show splB s (addR (splA s bs) bs) = bs
  unfold splB
  rw [splA_same e]
  generalize splA s bs = r at l
  apply List.ext_getElem
  · simp [addR, subR, l]
  · intro i h1 h2
    simp only [addR, subR, List.getElem_zipWith]
    grind
theorem any_len {s : UInt64} {bs : List UInt64} (h : bs.length ≤ 4096) : (addR (rowN s 0 (bs.length : Int)) bs).length = bs.length := by
  have l : (rowN s 0 (bs.length : Int)).length = bs.length := splA_len (s := s) h
  unfold addR
  rw [zip_len l, l]
theorem sums_add {s t : UInt64} {xs ys : List UInt64} (h : xs.length ≤ 4096) (e : xs.length = ys.length) : addR (addR (splA s xs) (splA t ys)) (addR (splB s xs) (splB t ys)) = addR xs ys := by
  have l1 := splA_len (s := s) h
  have l2 := splA_len (s := t) (xs := ys) (by omega)
  unfold splB
  generalize splA s xs = r at l1
  generalize splA t ys = q at l2
  apply List.ext_getElem
  · simp [addR, subR, l1, l2, e]
  · intro i h1 h2
    simp only [addR, subR, List.getElem_zipWith]
    grind
theorem sums_sub {s t : UInt64} {xs ys : List UInt64} (h : xs.length ≤ 4096) (e : xs.length = ys.length) : addR (subR (splA s xs) (splA t ys)) (subR (splB s xs) (splB t ys)) = subR xs ys := by
  have l1 := splA_len (s := s) h
  have l2 := splA_len (s := t) (xs := ys) (by omega)
  unfold splB
  generalize splA s xs = r at l1
  generalize splA t ys = q at l2
  apply List.ext_getElem
  · simp [addR, subR, l1, l2, e]
  · intro i h1 h2
    simp only [addR, subR, List.getElem_zipWith]
    grind
theorem sums_scl {s : UInt64} {xs : List UInt64} (k : UInt64) (h : xs.length ≤ 4096) : addR (sclR k (splA s xs)) (sclR k (splB s xs)) = sclR k xs := by
  have l1 := splA_len (s := s) h
  unfold splB
  generalize splA s xs = r at l1
  apply List.ext_getElem
  · simp [addR, subR, sclR, l1]
  · intro i h1 h2
    simp only [addR, subR, sclR, List.getElem_zipWith, List.getElem_map]
    grind
theorem known_join {who : Int} (h : who ≠ 0) (ys : List UInt64) : addR (partN 0 ys) (partN who ys) = ys := by
  rw [part_yes, part_no h]
  apply List.ext_getElem
  · simp [addR]
  · intro i h1 h2
    simp [addR]
theorem known_add {who : Int} (h0 : who ≠ 0) {s : UInt64} {xs ys : List UInt64} (h : xs.length ≤ 4096) (e : xs.length = ys.length) : addR (addR (splA s xs) (partN 0 ys)) (addR (splB s xs) (partN who ys)) = addR xs ys := by
  have l1 := splA_len (s := s) h
  rw [part_yes, part_no h0]
  unfold splB
  generalize splA s xs = r at l1
  apply List.ext_getElem
  · simp [addR, subR, l1, e]
  · intro i h1 h2
    simp only [addR, subR, List.getElem_zipWith, List.getElem_replicate]
    grind

/-- Two rows that are handed out. -/
def TwoTo (ps qs : List UInt64) (w : World) (e : Ending) (w' : World) : Prop :=
  ∃ (A1 : Option Addr) (k1 n1 : Nat) (A2 : Option Addr) (k2 n2 : Nat), e = .returned (.tuple #[.slice A1 n1 k1, .slice A2 n2 k2]) ∧ n1 = ps.length ∧ Rg ucells w' A1 ps ∧ n2 = qs.length ∧ Rg ucells w' A2 qs ∧ Below w.heap.size w w' ∧ n1 ≤ k1 ∧ k1 ≤ maxLen ∧ n2 ≤ k2 ∧ k2 ≤ maxLen
theorem rg_made (w : World) (n T : Nat) : Rg ucells (w.alloc (.cells (madeCells #[.int .u64 0] n) T)) (some ⟨w.heap.size, 0, none⟩) (List.replicate n 0) :=
  rg_block (heap_alloc_new w _) (by
    rw [toList_madeCells_one]
    induction n with
    | zero => rfl
    | succ n ih => rw [List.replicate_succ, List.replicate_succ, List.flatMap_cons, ← ih]; rfl)

end Go.Proofs.Ytdigdfkecnddiaa
