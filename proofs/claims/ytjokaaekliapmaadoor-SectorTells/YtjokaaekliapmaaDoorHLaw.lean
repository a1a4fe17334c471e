/-
  How what comes in is read as rows of numbers, for all laws of layers 10 and on.
-/
import Derived.Test.YtjokaaekliapmaaDoorSLaw
import Derived.Deep.Strs
import Derived.Deep.Slices
import Derived.Deep.Fields
import Derived.ChangeSame
namespace Go.Proofs.YtjokaaekliapmaaDoor
open Go.ChangeShapes Go.WideShapes Go.ChangeAt Go.RowKit Go.Deep

theorem Tryd.hlaid : laidOutB Tryd.prog = true := by kernel_rfl
theorem hu_of_cells {w : World} {x : Addr} {len cap : Nat} {zs : List Int} (hl : len ≤ cap) (hz : zs.length = cap)
    (hcell : ∀ i, i < zs.length → w.cell? (x.add i) = some (.int .u64 (zs.getD i 0))) (hwz : ∀ n ∈ zs, (Lit.int .u64 n).wf = true) :
    ∃ us : List UInt64, len = us.length ∧ Rg ucells w (some x) us ∧ len ≤ cap := by
  refine ⟨(zs.take len).map (fun n => UInt64.ofNat n.toNat), by simp; omega, fun h0 => ?_, hl⟩
  simp only [List.length_map, List.length_take] at h0
  obtain ⟨b, off, rfl, hc⟩ := ints_at hcell (by omega)
  refine ⟨b, off, rfl, World.block_lt_of_cell? w _ (hc 0 (by omega)), fun j u hu => ?_⟩
  have hj := (List.getElem?_eq_some_iff.1 hu).1
  rw [flat_len ucells_len, Nat.mul_one] at hj
  have hj2 := hj
  simp only [List.length_map, List.length_take] at hj2
  have g1 := flat_get ucells_len _ j 0 _ (List.getElem?_eq_getElem hj) (by omega)
  rw [Nat.mul_one, Nat.add_zero, hu] at g1
  rw [hc j (by omega), g1]
  have hjz : j < zs.length := by omega
  have hn := bounds_u64 (hwz _ (List.getElem_mem hjz))
  simp only [ucells, List.getElem?_cons_zero, Option.some.injEq, Value.int.injEq, true_and, List.getElem_map, List.getElem_take, List.getD_eq_getElem?_getD, List.getElem?_eq_getElem hjz, Option.getD_some]
  unfold uz
  rw [UInt64.toNat_ofNat']
  omega
end Go.Proofs.YtjokaaekliapmaaDoor
