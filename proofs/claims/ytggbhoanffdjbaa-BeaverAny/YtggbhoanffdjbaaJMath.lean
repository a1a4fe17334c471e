/-
  Masks, and their products: apart from any program.
-/
import Derived.Test.YtggbhoanffdjbaaSMath
namespace Go.Proofs.Ytggbhoanffdjbaa
open Go.RowKit

/-- One party's part of three numbers. -/
structure Tp where
  a : UInt64
  b : UInt64
  c : UInt64
def Tp.z : Tp := ⟨0, 0, 0⟩
def tpcells (t : Tp) : List Value := [.int .u64 (uz t.a), .int .u64 (uz t.b), .int .u64 (uz t.c)]
def tpv (t : Tp) : Value := .agg #[.int .u64 (uz t.a), .int .u64 (uz t.b), .int .u64 (uz t.c)]
theorem tpcells_len (t : Tp) : (tpcells t).length = 3 := rfl
theorem tpcells_one (t : Tp) : ∀ u ∈ tpcells t, u.oneCell' = true := fun u hu => by
  simp only [tpcells, List.mem_cons, List.mem_nil_iff, or_false] at hu
  rcases hu with rfl | rfl | rfl <;> rfl
/-- A dealer's triple, one party's part. -/
def halfU (s : UInt64) (who : Int) (i : UInt64) : Tp :=
  if who = 0 then ⟨numU s (5 * i), numU s (5 * i + 1), numU s (5 * i + 2)⟩
  else ⟨numU s (5 * i + 3), numU s (5 * i + 4), (numU s (5 * i) + numU s (5 * i + 3)) * (numU s (5 * i + 1) + numU s (5 * i + 4)) - numU s (5 * i + 2)⟩
theorem half_zero (s i : UInt64) : halfU s 0 i = ⟨numU s (5 * i), numU s (5 * i + 1), numU s (5 * i + 2)⟩ := if_pos rfl
theorem half_one {who : Int} (h : who ≠ 0) (s i : UInt64) : halfU s who i = ⟨numU s (5 * i + 3), numU s (5 * i + 4), (numU s (5 * i) + numU s (5 * i + 3)) * (numU s (5 * i + 1) + numU s (5 * i + 4)) - numU s (5 * i + 2)⟩ := if_neg h
theorem half_who {who : Int} (h : who ≠ 0) (s i : UInt64) : halfU s who i = halfU s 1 i := by rw [half_one h, half_one (by decide)]
theorem half_product (s i : UInt64) : (halfU s 0 i).c + (halfU s 1 i).c = ((halfU s 0 i).a + (halfU s 1 i).a) * ((halfU s 0 i).b + (halfU s 1 i).b) := by
  rw [half_zero, half_one (by decide)]
  dsimp only
  generalize numU s (5 * i) = p
  generalize numU s (5 * i + 1) = q
  generalize numU s (5 * i + 2) = r
  generalize numU s (5 * i + 3) = u
  generalize numU s (5 * i + 4) = v
  grind
theorem five_shift (s i k j : UInt64) : numU (s + 5 * k * gU) (5 * i + j) = numU s (5 * (i + k) + j) := by
  rw [num_shift]
  refine congrArg (numU s) ?_
  grind
theorem half_shift (s i k : UInt64) (who : Int) : halfU (s + 5 * k * gU) who i = halfU s who (i + k) := by
  have h0 := five_shift s i k 0
  rw [UInt64.add_zero, UInt64.add_zero] at h0
  unfold halfU
  rw [h0, five_shift, five_shift, five_shift, five_shift]
/-- Triples one behind the other. -/
def rowT (s : UInt64) (who : Int) (f : UInt64) (m : Nat) : List Tp := (List.range m).map fun j => halfU s who (f + UInt64.ofNat j)
def rowTN (s : UInt64) (who : Int) (f : UInt64) (m : Int) : List Tp := if m ≤ 4096 then rowT s who f m.toNat else []
theorem trow_len (s : UInt64) (who : Int) (f : UInt64) (m : Nat) : (rowT s who f m).length = m := by simp [rowT]
theorem trow_next (s : UInt64) (who : Int) (f : UInt64) (m : Nat) : rowT s who f (m + 1) = rowT s who f m ++ [halfU s who (f + UInt64.ofNat m)] := by
  simp [rowT, List.range_succ]
theorem trow_get {s : UInt64} {who : Int} {f : UInt64} {m j : Nat} (h : j < m) : (rowT s who f m)[j]? = some (halfU s who (f + UInt64.ofNat j)) := by
  simp [rowT, h]
theorem trow_cut (s : UInt64) (who : Int) (f : UInt64) (k m : Nat) : rowT s who f (k + m) = rowT s who f k ++ rowT s who (f + UInt64.ofNat k) m := by
  unfold rowT
  rw [List.range_add, List.map_append, List.map_map]
  refine congrArg (fun l => List.map (fun j => halfU s who (f + UInt64.ofNat j)) (List.range k) ++ l) (List.map_congr_left fun j _ => ?_)
  rw [Function.comp, UInt64.ofNat_add, UInt64.add_assoc]
theorem trown_le (s : UInt64) (who : Int) (f : UInt64) (m : Int) : (rowTN s who f m).length ≤ 4096 := by
  unfold rowTN
  split
  · rw [trow_len]; omega
  · simp
/-- A block that holds a triple. -/
def TC (w : World) (b : Nat) (t : Tp) : Prop := w.heap[b]? = some (.cells #[.int .u64 (uz t.a), .int .u64 (uz t.b), .int .u64 (uz t.c)] 37 (0, 0))
theorem TC.lt {w : World} {b : Nat} {t : Tp} (H : TC w b t) : b < w.heap.size := (Array.getElem?_eq_some_iff.1 H).1
theorem TC.below {w w' : World} {b : Nat} {t : Tp} (H : TC w b t) (hb : Below w.heap.size w w') : TC w' b t := (hb.block b H.lt).trans H
theorem TC.cells {w : World} {b : Nat} {t : Tp} (H : TC w b t) : w.cell? ⟨b, 0, none⟩ = some (.int .u64 (uz t.a)) ∧ w.cell? ⟨b, 1, none⟩ = some (.int .u64 (uz t.b)) ∧ w.cell? ⟨b, 2, none⟩ = some (.int .u64 (uz t.c)) := by
  refine ⟨?_, ?_, ?_⟩ <;> (rw [Lib.cell_of_heap H]; rfl)
theorem TC.frozen {w : World} {b : Nat} {t : Tp} (H : TC w b t) (j : Nat) : w.frozen? ⟨b, j, none⟩ = false := Lib.frozen_of_heap H j
theorem TC.new (w : World) (t : Tp) : TC (w.alloc (.cells #[.int .u64 (uz t.a), .int .u64 (uz t.b), .int .u64 (uz t.c)] 37)) w.heap.size t := heap_alloc_new w _
theorem below_set3 {w0 w : World} {B b : Nat} (H : Below B w0 w) (hb : B ≤ b) (v0 v1 v2 : Value) :
    Below B w0 (((w.setCell ⟨b, 0, none⟩ v0).setCell ⟨b, 1, none⟩ v1).setCell ⟨b, 2, none⟩ v2) :=
  ((H.setCell (p := ⟨b, 0, none⟩) hb _).setCell (p := ⟨b, 1, none⟩) hb _).setCell (p := ⟨b, 2, none⟩) hb _
theorem tp_cells {w : World} {b off : Nat} {ts : List Tp} (h : ∀ j u, (ts.flatMap tpcells)[j]? = some u → w.cell? ⟨b, off + j, none⟩ = some u) {k : Nat} {t : Tp} (ht : ts[k]? = some t) :
    w.cell? ⟨b, off + k * 3, none⟩ = some (.int .u64 (uz t.a)) ∧ w.cell? ⟨b, off + k * 3 + 1, none⟩ = some (.int .u64 (uz t.b)) ∧ w.cell? ⟨b, off + k * 3 + 2, none⟩ = some (.int .u64 (uz t.c)) := by
  have q := Rg.at tpcells_len h ht
  exact ⟨q 0 _ rfl, q 1 _ rfl, q 2 _ rfl⟩

end Go.Proofs.Ytggbhoanffdjbaa
