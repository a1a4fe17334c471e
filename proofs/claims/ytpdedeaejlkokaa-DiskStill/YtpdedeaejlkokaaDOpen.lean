/-
  How what comes in is read as scripts, and Booleans, for all laws of layer 15.
-/
import Derived.Test.YtpdedeaejlkokaaCLaw
import Derived.Test.YtpdedeaejlkokaaDLaw
import Derived.Deep.Slices
import Derived.Deep.Fields
namespace Go.Proofs.Ytpdedeaejlkokaa
open Go.ChangeShapes Go.WideShapes Go.ChangeAt Go.RowKit Go.Deep

theorem Try.ocells6 : Try.prog.cellsOf 34 = 6 := by kernel_rfl
theorem Try.qcells1 : Try.prog.cellsOf 4 = 1 := by kernel_rfl
theorem Try.qrow1 : Try.prog.cellsOf 32 = 1 := by kernel_rfl
theorem Try.icell1 : Try.prog.cellsOf 3 = 1 := by kernel_rfl
theorem hsix {α : Type} {l : List α} (h : l.length = 6) : ∃ a b c d e f, l = [a, b, c, d, e, f] := by
  match l, h with
  | [a, b, c, d, e, f], _ => exact ⟨a, b, c, d, e, f, rfl⟩
theorem ib_open {H : Type} {enc : TypeId × Value → H} {W : World} {fuel : Nat} {v : Value} {y : DataW H × List MemPlace} (h : DataW.trod enc Try.prog W 0 (fun _ => true) true fuel 3 [v] = some y) : ∃ u : Int, v = .int .i64 u ∧ u ≤ 9223372036854775807 := by
  obtain ⟨n, hc, _, hw⟩ := DataW.trod_int Try.underlying3 h
  exact ⟨n, by simpa using hc, (bounds_i64 hw).2⟩
theorem bb_open {H : Type} {enc : TypeId × Value → H} {W : World} {fuel : Nat} {v : Value} {y : DataW H × List MemPlace} (h : DataW.trod enc Try.prog W 0 (fun _ => true) true fuel 5 [v] = some y) : ∃ u : UInt8, v = .int .u8 (bz u) := by
  obtain ⟨n, hc, _, hw⟩ := DataW.trod_int Try.underlying5 h
  have := bounds_u8 hw
  obtain ⟨u, hu⟩ := bz_of (n := n) (by omega) (by omega)
  exact ⟨u, by rw [← hu]; simpa using hc⟩
theorem bsl_open {H : Type} {enc : TypeId × Value → H} {W : World} {fuel : Nat} {v : Value} {y : DataW H × List MemPlace} (h : DataW.trod enc Try.prog W 0 (fun _ => true) true fuel 31 [v] = some y) :
    ∃ (s : Hd) (us : List UInt8), v = .slice s.a s.n s.c ∧ HB W s us := by
  rcases open_ints Try.underlying31 Try.underlying5 Try.bcells1 h with ⟨hcs, _⟩ | ⟨x, l, c, zs, hcs, _, hl, hm, hz, _, hcell, hwz⟩
  · simp at hcs
    subst hcs
    exact ⟨⟨none, 0, 0⟩, [], rfl, rfl, Nat.le_refl _, Rg.nil _ _ _⟩
  · simp at hcs
    subst hcs
    obtain ⟨us, h1, h2⟩ := rgb_of_cells (len := l) (by have : zs.length = c := by simpa using hz
                                                       omega) hcell hwz
    exact ⟨⟨some x, l, c⟩, us, rfl, h1, hl, h2⟩
/-- Booleans come in. -/
theorem qsl_open {H : Type} {enc : TypeId × Value → H} {W : World} {fuel : Nat} {v : Value} {y : DataW H × List MemPlace} (h : DataW.trod enc Try.prog W 0 (fun _ => true) true fuel 32 [v] = some y) :
    ∃ (s : Hd) (us : List Bool), v = .slice s.a s.n s.c ∧ HQ W s us := by
  rcases Deep.open_slice Try.underlying32 h with ⟨hcs, _⟩ | ⟨a, len, cap, m, n, D, Pl, hcs, _, hl, hmx, hm, _, hc⟩
  · simp at hcs
    exact ⟨⟨none, 0, 0⟩, [], hcs, rfl, Nat.le_refl _, Rg.nil _ _ _⟩
  · simp at hcs
    simp at hm
    rw [Try.qcells1] at hc
    have key : ∀ i, i < len → ∃ b : Bool, W.cells? 0 (a.add (i * 1)) 1 = some [.bool b] := fun i hi => by
      obtain ⟨cs', h1, h2⟩ := hc i (by omega)
      obtain ⟨b, rfl, _⟩ := DataW.trod_bool Try.underlying4 h2
      exact ⟨b, h1⟩
    obtain ⟨L, hL⟩ := choose_lt key
    refine ⟨⟨some a, len, cap⟩, (List.range len).map L, hcs, by simp, hl, fun h0 => ?_⟩
    simp only [List.length_map, List.length_range] at h0
    obtain ⟨b, off, spot⟩ := a
    have hat : ∀ i, i < len → W.cell? (((⟨b, off, spot⟩ : Addr).add (i * 1)).add 0) = some (.bool (L i)) := fun i hi => by
      obtain ⟨_, _, hh⟩ := World.cells?_some (hL i hi)
      exact hh 0 (by omega)
    have hspot : spot = none := by
      have := hat 0 h0
      simpa [Addr.add] using World.cell?_spot this
    subst hspot
    have hcell : ∀ i, i < len → W.cell? ⟨b, off + i, none⟩ = some (.bool (L i)) := fun i hi => by
      have := hat i hi
      rw [Go.WideShapes.add_plain, Go.WideShapes.add_plain] at this
      simpa using this
    refine ⟨b, off, rfl, World.block_lt_of_cell? W _ (hcell 0 h0), fun j u hu => ?_⟩
    have hj := (List.getElem?_eq_some_iff.1 hu).1
    rw [flat_len qcells_len, Nat.mul_one] at hj
    have g1 := flat_get qcells_len _ j 0 _ (List.getElem?_eq_getElem hj) (by omega)
    rw [Nat.mul_one, Nat.add_zero, hu] at g1
    simp at hj
    rw [hcell j hj, g1]
    simp [qcells]
set_option maxRecDepth 100000 in
theorem op_open {H : Type} {enc : TypeId × Value → H} {W : World} {fuel : Nat} {cs : List Value} {y : DataW H × List MemPlace} (h : DataW.trod enc Try.prog W 0 (fun _ => true) true fuel 34 cs = some y) :
    ∃ x : Dop × Hd × Hd, cs = ocells x ∧ HB W x.2.1 x.1.b ∧ HQ W x.2.2 x.1.k ∧ x.1.n ≤ 9223372036854775807 := by
  obtain ⟨xs, n, _, _, hcl, hlen, hg⟩ := DataW.trod_struct Try.underlying34 h
  rw [Try.ocells6] at hcl
  have g0 := hg 0 _ rfl
  have g1 := hg 1 _ rfl
  have g2 := hg 2 _ rfl
  have g3 := hg 3 _ rfl
  have g4 := hg 4 _ rfl
  have g5 := hg 5 _ rfl
  obtain ⟨y0, y1, y2, y3, y4, y5, rfl⟩ := hsix hlen
  obtain ⟨a, b, c, d, e, f, rfl⟩ := hsix hcl
  simp [Try.icell1, Try.bcells1, Try.hcells1, Try.qrow1] at g0 g1 g2 g3 g4 g5
  obtain ⟨w, rfl, _⟩ := ib_open g0
  obtain ⟨p, rfl, _⟩ := ib_open g1
  obtain ⟨z, rfl⟩ := bb_open g2
  obtain ⟨s, us, rfl, hs⟩ := bsl_open g3
  obtain ⟨m, rfl, hm⟩ := ib_open g4
  obtain ⟨t, ts, rfl, ht⟩ := qsl_open g5
  exact ⟨(⟨w, p, z, us, m, ts⟩, s, t), rfl, hs, ht, hm⟩
theorem scr_open {H : Type} {enc : TypeId × Value → H} {W : World} {a : Option Addr} {len cap : Nat} {d : DataW H} {p : List MemPlace}
    (h : DataW.Trod enc Try.prog W 0 (fun _ => true) true 22 (.slice a len cap) d p) : ∃ os : List Dop, Scr W a len cap os := by
  obtain ⟨fuel, hf⟩ := h
  rcases Deep.open_slice Try.underlying22 hf with ⟨hcs, _⟩ | ⟨x, l, c, m, n, D, Pl, hcs, _, hl, hmx, hm, _, hc⟩
  · simp [Value.cells] at hcs
    obtain ⟨rfl, rfl, rfl⟩ := hcs
    exact ⟨[], ⟨[], Rg.nil _ _ _, rfl, fun x hx => by simp at hx⟩, rfl, fun o ho => by simp at ho⟩
  · simp [Value.cells] at hcs
    obtain ⟨rfl, rfl, rfl⟩ := hcs
    simp at hm
    rw [Try.ocells6] at hc
    have key : ∀ i, i < len → ∃ y : Dop × Hd × Hd, W.cells? 0 (x.add (i * 6)) 6 = some (ocells y) ∧ HB W y.2.1 y.1.b ∧ HQ W y.2.2 y.1.k ∧ y.1.n ≤ 9223372036854775807 := fun i hi => by
      obtain ⟨cs', h1, h2⟩ := hc i (by omega)
      obtain ⟨y, rfl, hy⟩ := op_open h2
      exact ⟨y, h1, hy⟩
    obtain ⟨L, hL⟩ : ∃ L : Nat → Dop × Hd × Hd, ∀ i, i < len → W.cells? 0 (x.add (i * 6)) 6 = some (ocells (L i)) ∧ HB W (L i).2.1 (L i).1.b ∧ HQ W (L i).2.2 (L i).1.k ∧ (L i).1.n ≤ 9223372036854775807 :=
      ⟨fun i => if hi : i < len then Classical.choose (key i hi) else (⟨0, 0, 0, [], 0, []⟩, ⟨none, 0, 0⟩, ⟨none, 0, 0⟩), fun i hi => by simp only [dif_pos hi]; exact Classical.choose_spec (key i hi)⟩
    have mem : ∀ y ∈ (List.range len).map L, ∃ i, i < len ∧ y = L i := fun y hy => by
      obtain ⟨i, hi, e⟩ := List.mem_map.1 hy
      exact ⟨i, List.mem_range.1 hi, e.symm⟩
    refine ⟨((List.range len).map L).map (·.1), ⟨(List.range len).map L, fun h0 => ?_, rfl, fun y hy => ?_⟩, by simp, fun o ho => ?_⟩
    · simp only [List.length_map, List.length_range] at h0
      obtain ⟨b, off, spot⟩ := x
      have hat : ∀ i, i < len → ∀ j, j < 6 → W.cell? (((⟨b, off, spot⟩ : Addr).add (i * 6)).add j) = (ocells (L i))[j]? := fun i hi j hj => by
        obtain ⟨_, _, hh⟩ := World.cells?_some (hL i hi).1
        exact hh j hj
      have hspot : spot = none := by
        have := hat 0 h0 0 (by omega)
        simpa [Addr.add] using World.cell?_spot (this : _ = some _)
      subst hspot
      have hcell : ∀ i, i < len → ∀ j, j < 6 → W.cell? ⟨b, off + i * 6 + j, none⟩ = (ocells (L i))[j]? := fun i hi j hj => by
        rw [← hat i hi j hj, Go.WideShapes.add_plain, Go.WideShapes.add_plain]
      refine ⟨b, off, rfl, World.block_lt_of_cell? W _ (hcell 0 h0 0 (by omega)), fun j u hu => ?_⟩
      have hj := (List.getElem?_eq_some_iff.1 hu).1
      rw [flat_len ocells_len, List.length_map, List.length_range] at hj
      have g1 := flat_get ocells_len ((List.range len).map L) (j / 6) (j % 6) (L (j / 6)) (by simp [show j / 6 < len by omega]) (Nat.mod_lt _ (by decide))
      rw [show j / 6 * 6 + j % 6 = j by omega, hu] at g1
      have := hcell (j / 6) (by omega) (j % 6) (Nat.mod_lt _ (by decide))
      rw [show off + j / 6 * 6 + j % 6 = off + j by omega, ← g1] at this
      exact this
    · obtain ⟨i, hi, rfl⟩ := mem y hy
      exact ⟨(hL i hi).2.1, (hL i hi).2.2.1⟩
    · obtain ⟨y, hy, rfl⟩ := List.mem_map.1 ho
      obtain ⟨i, hi, rfl⟩ := mem y hy
      exact (hL i hi).2.2.2
theorem hq_open {H : Type} {enc : TypeId × Value → H} {W : World} {a : Option Addr} {len cap : Nat} {d : DataW H} {p : List MemPlace}
    (h : DataW.Trod enc Try.prog W 0 (fun _ => true) true 32 (.slice a len cap) d p) : ∃ us : List Bool, len = us.length ∧ Rg qcells W a us := by
  obtain ⟨fuel, hf⟩ := h
  obtain ⟨s, us, e, h1, h2, h3⟩ := qsl_open (v := .slice a len cap) (by simpa [Value.cells] using hf)
  injection e with e1 e2 e3
  subst e1 e2 e3
  exact ⟨us, h1, h3⟩

end Go.Proofs.Ytpdedeaejlkokaa
