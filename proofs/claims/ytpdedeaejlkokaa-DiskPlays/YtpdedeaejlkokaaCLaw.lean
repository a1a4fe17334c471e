/-
  How what comes in is read as rows of bytes, and rows of these, for all laws of layers 14 and on.
-/
import Derived.Test.YtpdedeaejlkokaaHLaw
import Derived.Test.YtpdedeaejlkokaaBMem
import Derived.Deep.Matrix
namespace Go.Proofs.Ytpdedeaejlkokaa
open Go.ChangeShapes Go.WideShapes Go.ChangeAt Go.RowKit Go.Deep

theorem Try.bcells1 : Try.prog.cellsOf 5 = 1 := by kernel_rfl
theorem Try.hcells1 : Try.prog.cellsOf 31 = 1 := by kernel_rfl
/-- Cells that bear bytes. -/
theorem rgb_of_cells {w : World} {x : Addr} {len : Nat} {zs : List Int} (hl : len ≤ zs.length)
    (hcell : ∀ i, i < zs.length → w.cell? (x.add i) = some (.int .u8 (zs.getD i 0))) (hwz : ∀ n ∈ zs, (Lit.int .u8 n).wf = true) :
    ∃ us : List UInt8, len = us.length ∧ Rg bcells w (some x) us := by
  refine ⟨(zs.take len).map (fun n => UInt8.ofNat n.toNat), by simp; omega, fun h0 => ?_⟩
  simp only [List.length_map, List.length_take] at h0
  obtain ⟨b, off, rfl, hc⟩ := ints_at hcell (by omega)
  refine ⟨b, off, rfl, World.block_lt_of_cell? w _ (hc 0 (by omega)), fun j u hu => ?_⟩
  have hj := (List.getElem?_eq_some_iff.1 hu).1
  rw [flat_len bcells_len, Nat.mul_one] at hj
  have hj2 := hj
  simp only [List.length_map, List.length_take] at hj2
  have g1 := flat_get bcells_len _ j 0 _ (List.getElem?_eq_getElem hj) (by omega)
  rw [Nat.mul_one, Nat.add_zero, hu] at g1
  rw [hc j (by omega), g1]
  have hjz : j < zs.length := by omega
  have hn := bounds_u8 (hwz _ (List.getElem_mem hjz))
  simp only [bcells, List.getElem?_cons_zero, Option.some.injEq, Value.int.injEq, true_and, List.getElem_map, List.getElem_take, List.getD_eq_getElem?_getD, List.getElem?_eq_getElem hjz, Option.getD_some]
  unfold bz
  rw [UInt8.toNat_ofNat']
  omega
theorem hb_open {H : Type} {enc : TypeId × Value → H} {W : World} {a : Option Addr} {len cap : Nat} {d : DataW H} {p : List MemPlace}
    (h : DataW.Trod enc Try.prog W 0 (fun _ => true) true 31 (.slice a len cap) d p) : ∃ us : List UInt8, len = us.length ∧ Rg bcells W a us ∧ len ≤ cap := by
  obtain ⟨fuel, hf⟩ := h
  rcases open_ints Try.underlying31 Try.underlying5 Try.bcells1 hf with ⟨hcs, _⟩ | ⟨x, l, c, zs, hcs, _, hl, hm, hz, _, hcell, hwz⟩
  · simp [Value.cells] at hcs
    obtain ⟨rfl, rfl, rfl⟩ := hcs
    exact ⟨[], rfl, Rg.nil _ _ _, Nat.le_refl _⟩
  · simp [Value.cells] at hcs
    obtain ⟨rfl, rfl, rfl⟩ := hcs
    obtain ⟨us, h1, h2⟩ := rgb_of_cells (len := len) (by have : zs.length = cap := by simpa using hz
                                                         omega) hcell hwz
    exact ⟨us, h1, h2, hl⟩
theorem hr_open {H : Type} {enc : TypeId × Value → H} {W : World} {a : Option Addr} {len cap : Nat} {d : DataW H} {p : List MemPlace}
    (h : DataW.Trod enc Try.prog W 0 (fun _ => true) true 58 (.slice a len cap) d p) : ∃ us : List (List UInt8), len = us.length ∧ BR W a us ∧ len ≤ cap := by
  obtain ⟨fuel, hf⟩ := h
  rcases open_int_rows Try.underlying58 Try.underlying31 Try.underlying5 Try.hcells1 Try.bcells1 hf with ⟨hcs, _⟩ | ⟨x, l, c, A, L, C, Z, hcs, _, hl, hm, _, each⟩
  · simp [Value.cells] at hcs
    obtain ⟨rfl, rfl, rfl⟩ := hcs
    exact ⟨[], rfl, BR.nil _ _, Nat.le_refl _⟩
  · simp [Value.cells] at hcs
    obtain ⟨rfl, rfl, rfl⟩ := hcs
    have rows : ∀ r, r < cap → ∃ us : List UInt8, L r = us.length ∧ Rg bcells W (A r) us := fun r hr => by
      obtain ⟨_, e2, _, e4, e5, e6, e7⟩ := each r hr
      rcases hA : A r with _ | a'
      · have := e6 hA
        exact ⟨[], by have : L r ≤ C r := e2
                      simp; omega, Rg.nil _ _ _⟩
      · obtain ⟨_, e8⟩ := e7 a' hA
        exact rgb_of_cells (len := L r) (by omega) (fun i hi => e8 i (by omega)) e5
    obtain ⟨f, hf2⟩ := choose_lt rows
    refine ⟨(List.range len).map f, by simp, ⟨(List.range len).map fun r => ⟨A r, L r, C r⟩, fun h0 => ?_, by simp, fun i h l e1 e2 => ?_⟩, hl⟩
    · simp at h0
      have h1 := (each 0 (by omega)).1
      obtain ⟨b, off, spot⟩ := x
      have hspot : spot = none := by simpa [Addr.add] using World.cell?_spot h1
      subst hspot
      refine ⟨b, off, rfl, World.block_lt_of_cell? W _ (by have := h1; rw [show (⟨b, off, none⟩ : Addr).add 0 = ⟨b, off + 0, none⟩ by unfold Addr.add; split <;> simp_all] at this; exact this), fun j u hu => ?_⟩
      have hj := (List.getElem?_eq_some_iff.1 hu).1
      rw [flat_len hcells_len, Nat.mul_one] at hj
      have g1 := flat_get hcells_len _ j 0 _ (List.getElem?_eq_getElem hj) (by omega)
      rw [Nat.mul_one, Nat.add_zero, hu] at g1
      simp at hj
      have := (each j (by omega)).1
      rw [show (⟨b, off, none⟩ : Addr).add j = ⟨b, off + j, none⟩ by unfold Addr.add; split <;> simp_all] at this
      rw [this, g1]
      simp [hcells]
    · have hi : i < len := by
        have := (List.getElem?_eq_some_iff.1 e1).1
        simpa using this
      simp [hi] at e1 e2
      obtain ⟨z1, z2⟩ := hf2 i (by omega)
      subst e1 e2
      exact ⟨z1, (each i (by omega)).2.1, z2⟩

end Go.Proofs.Ytpdedeaejlkokaa
