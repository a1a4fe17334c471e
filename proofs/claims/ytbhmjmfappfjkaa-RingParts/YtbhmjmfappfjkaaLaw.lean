/-
  How what comes in is read as rows of numbers, for all laws of layer 1.
-/
import Derived.Test.YtbhmjmfappfjkaaHead
import Derived.ProofKit
import Derived.OpenShut
import Derived.ChangeOld
namespace Go.Proofs.Ytbhmjmfappfjkaa
open Go.ChangeShapes Go.WideShapes Go.ChangeAt Go.RowKit

theorem Try.own : ownKnob Try.prog.godebug = none := by kernel_rfl
theorem Try.laidOut : laidOutB Try.prog = true := by kernel_rfl
theorem Try.cells23 : Try.prog.cellsOf 23 = 1 := by kernel_rfl

theorem u64_of_wf {n : Int} (h : (Lit.int .u64 n).wf = true) : ∃ u : UInt64, n = uz u := by
  have h2 := bounds_u64 h
  exact uz_of h2.1 (by omega)

theorem rd_of_cells {w : World} {x : Addr} {len cap : Nat} {zs : List Int} (hl : len ≤ cap) (hz : zs.length = cap)
    (hcell : ∀ i, i < zs.length → w.cell? (x.add i) = some (.int .u64 (zs.getD i 0))) (hwz : ∀ n ∈ zs, (Lit.int .u64 n).wf = true) :
    ∃ us : List UInt64, len = us.length ∧ Rd w (some x) us ∧ len ≤ cap := by
  refine ⟨(zs.take len).map (fun n => UInt64.ofNat n.toNat), by simp; omega, fun h0 => ?_, hl⟩
  simp only [List.length_map, List.length_take] at h0
  obtain ⟨b, off, rfl, hc⟩ := ints_at hcell (by omega)
  refine ⟨b, off, rfl, World.block_lt_of_cell? w _ (hc 0 (by omega)), fun j hj => ?_⟩
  simp only [List.length_map, List.length_take] at hj
  rw [hc j (by omega)]
  have hjz : j < zs.length := by omega
  have hn := bounds_u64 (hwz _ (List.getElem_mem hjz))
  have e : nth ((zs.take len).map (fun n => UInt64.ofNat n.toNat)) j = zs.getD j 0 := by
    unfold nth uz
    simp only [List.getD_eq_getElem?_getD, List.getElem?_map, List.getElem?_take]
    rw [if_pos (by omega), List.getElem?_eq_getElem hjz]
    simp only [Option.map_some, Option.getD_some]
    rw [UInt64.toNat_ofNat']
    omega
  rw [e]

theorem rd_open {H : Type} {enc : TypeId × Value → H} {W : World} {a : Option Addr} {len cap : Nat} {d : DataW H} {p : List MemPlace}
    (h : DataW.Trod enc Try.prog W 0 (fun _ => true) true 22 (.slice a len cap) d p) : ∃ us : List UInt64, len = us.length ∧ Rd W a us ∧ len ≤ cap := by
  obtain ⟨fuel, hf⟩ := h
  rcases open_ints Try.underlying22 Try.underlying23 Try.cells23 hf with ⟨hcs, _⟩ | ⟨x, l, c, zs, hcs, _, hl, hm, hz, _, hcell, hwz⟩
  · simp [Value.cells] at hcs
    obtain ⟨rfl, rfl, rfl⟩ := hcs
    exact ⟨[], rfl, Rd.nil _ _, Nat.le_refl _⟩
  · simp [Value.cells] at hcs
    obtain ⟨rfl, rfl, rfl⟩ := hcs
    exact rd_of_cells hl (by simpa using hz) hcell hwz

end Go.Proofs.Ytbhmjmfappfjkaa
