/-
  How what comes in is read as texts and rows of texts, and what the laid table gives, for all laws of layer 3.
-/
import Derived.Test.YtodapekcgbhfoaaDoorMem
import Derived.ProofKit
import Derived.OpenShut
import Derived.ChangeOld
import Derived.LaidMore
import Derived.Stop.Joined
import Derived.Stop.LaidErr
import Derived.Deep.Strs
namespace Go.Proofs.YtodapekcgbhfoaaDoor
open Go.ChangeShapes Go.WideShapes Go.ChangeAt Go.RowKit

def laid3 : List (String × DataW Unit) := Rows.textTellsRow.laid
theorem Tryd.cells9 : Tryd.prog.cellsOf 9 = 1 := by kernel_rfl
theorem Tryd.global0 : (Tryd.prog.globals[0]?).map (·.type) = some 69 := by kernel_rfl
theorem Tryd.cells60 : Tryd.prog.cellsOf 60 = 1 := by kernel_rfl
theorem Tryd.cells69 : Tryd.prog.cellsOf 69 = 20 := by kernel_rfl

theorem tab_of_laid {W : World} (h : laidMetH Tryd.prog laid3 W) : Tab W := by
  rw [MakeChecks.laidMetH_plain _ _ _ (by kernel_rfl)] at h
  have h1 := laidMet.tail h
  have h2 := laidMet.tail h1
  have h3 : laidMet Tryd.prog ((powName, Lib.tabData .u64 Lib.pow10Tab) :: []) W := h2
  exact Lib.tabIs_of_head pow_global Tryd.global0 Tryd.underlying69 Tryd.underlying60 Tryd.cells60 Tryd.cells69 h3

theorem door_met (os : Os) (args : Array Value) : laidMetH Tryd.prog laid3 ((World.doorLaid Tryd.prog 24 os).forCall (fun _ _ => 0) ⟨#[], args, []⟩).memory :=
  laidMetH_of_parts3 (fuel := 8) (laidMet_of_run' 8 (by kernel_rfl) (by kernel_rfl)) (by kernel_rfl) (by kernel_rfl)

theorem byte_of_wf {n : Int} (h : (Lit.int .u8 n).wf = true) : ∃ c : UInt8, n = (c.toNat : Int) := by
  have h2 := bounds_u8 h
  refine ⟨UInt8.ofNat n.toNat, ?_⟩
  rw [UInt8.toNat_ofNat']; omega

theorem rd_open {H : Type} {enc : TypeId × Value → H} {W : World} {a : Option Addr} {len cap : Nat} {d : DataW H} {p : List MemPlace}
    (h : DataW.Trod enc Tryd.prog W 0 (fun _ => true) true 22 (.slice a len cap) d p) : ∃ xs : List (List UInt8), len = xs.length ∧ Rd W a xs ∧ len ≤ cap := by
  obtain ⟨fuel, hf⟩ := h
  rcases Deep.open_strs Tryd.underlying22 Tryd.underlying9 Tryd.cells9 hf with ⟨hcs, _⟩ | ⟨x, l, c, m, Sx, hcs, _, hl, _, hm, _, hc⟩
  · simp [Value.cells] at hcs
    obtain ⟨rfl, rfl, rfl⟩ := hcs
    exact ⟨[], rfl, Rd.nil _ _, Nat.le_refl _⟩
  · simp [Value.cells] at hcs
    obtain ⟨rfl, rfl, rfl⟩ := hcs
    simp at hm
    refine ⟨(List.range len).map fun i => bl (Sx i), by simp, fun h0 => ?_, hl⟩
    simp only [List.length_map, List.length_range] at h0
    obtain ⟨b, off, spot⟩ := x
    have hspot : spot = none := by simpa [Addr.add] using World.cell?_spot (hc 0 (by omega)).1
    subst hspot
    have hcell : ∀ j, j < len → W.cell? ⟨b, off + j, none⟩ = some (.string (Sx j)) := fun j hj => by
      rw [← Go.WideShapes.add_plain]; exact (hc j (by omega)).1
    refine ⟨b, off, rfl, World.block_lt_of_cell? W _ (hcell 0 (by omega)), fun j hj => ?_⟩
    simp only [List.length_map, List.length_range] at hj
    rw [hcell j hj]
    have e : ((List.range len).map fun i => bl (Sx i)).getD j [] = bl (Sx j) := by
      simp [List.getD_eq_getElem?_getD, hj]
    rw [e, ba_bl]

end Go.Proofs.YtodapekcgbhfoaaDoor
