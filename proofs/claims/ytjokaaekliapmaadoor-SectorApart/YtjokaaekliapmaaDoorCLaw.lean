/-
  How what comes in is read as rows of bytes, and rows of these, for all laws of layers 14 and on.
-/
import Derived.Test.YtjokaaekliapmaaDoorHLaw
import Derived.Test.YtjokaaekliapmaaDoorBMem
import Derived.Deep.Matrix
namespace Go.Proofs.YtjokaaekliapmaaDoor
open Go.ChangeShapes Go.WideShapes Go.ChangeAt Go.RowKit Go.Deep

theorem Tryd.bcells1 : Tryd.prog.cellsOf 5 = 1 := by kernel_rfl
theorem Tryd.hcells1 : Tryd.prog.cellsOf 22 = 1 := by kernel_rfl
/-- Cells that bear bytes. -/
theorem rgb_of_cells {w : World} {x : Addr} {len : Nat} {zs : List Int} (hl : len ≤ zs.length)
    (hcell : ∀ i, i < zs.length → w.cell? (x.add i) = some (.int .u8 (zs.getD i 0))) (hwz : ∀ n ∈ zs, (Lit.int .u8 n).wf = true) :
    ∃ us : List UInt8, len = us.length ∧ Rg bcells w (some x) us := by
  refine ⟨(zs.take len).map (fun n => UInt8.ofNat n.toNat), by simp; omega, fun h0 => ?_⟩
  simp only [List.length_map, List.length_take] at h0
  obtain ⟨b, off, rfl, hc⟩ := ints_at hcell (by omega)
  refine ⟨b, off, rfl, World.block_lt_of_cell? w _ (hc 0 (by omega)), fun j u hu => ?_⟩
  have hj := (List.getElem?_eq_some_iff.1 hu).1
  rw [flat_len bcells_len, Nat.mul_one] at hj
  have hj2 := hj
  simp only [List.length_map, List.length_take] at hj2
  have g1 := flat_get bcells_len _ j 0 _ (List.getElem?_eq_getElem hj) (by omega)
  rw [Nat.mul_one, Nat.add_zero, hu] at g1
  rw [hc j (by omega), g1]
  have hjz : j < zs.length := by omega
  have hn := bounds_u8 (hwz _ (List.getElem_mem hjz))
  simp only [bcells, List.getElem?_cons_zero, Option.some.injEq, Value.int.injEq, true_and, List.getElem_map, List.getElem_take, List.getD_eq_getElem?_getD, List.getElem?_eq_getElem hjz, Option.getD_some]
  unfold bz
  rw [UInt8.toNat_ofNat']
  omega
theorem hb_open {H : Type} {enc : TypeId × Value → H} {W : World} {a : Option Addr} {len cap : Nat} {d : DataW H} {p : List MemPlace}
    (h : DataW.Trod enc Tryd.prog W 0 (fun _ => true) true 22 (.slice a len cap) d p) : ∃ us : List UInt8, len = us.length ∧ Rg bcells W a us ∧ len ≤ cap := by
  obtain ⟨fuel, hf⟩ := h
  rcases open_ints Tryd.underlying22 Tryd.underlying5 Tryd.bcells1 hf with ⟨hcs, _⟩ | ⟨x, l, c, zs, hcs, _, hl, hm, hz, _, hcell, hwz⟩
  · simp [Value.cells] at hcs
    obtain ⟨rfl, rfl, rfl⟩ := hcs
    exact ⟨[], rfl, Rg.nil _ _ _, Nat.le_refl _⟩
  · simp [Value.cells] at hcs
    obtain ⟨rfl, rfl, rfl⟩ := hcs
    obtain ⟨us, h1, h2⟩ := rgb_of_cells (len := len) (by have : zs.length = cap := by simpa using hz
                                                         omega) hcell hwz
    exact ⟨us, h1, h2, hl⟩
end Go.Proofs.YtjokaaekliapmaaDoor
