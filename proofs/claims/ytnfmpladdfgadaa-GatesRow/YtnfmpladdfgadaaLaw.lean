/-
  How what comes in is read as networks, layers and numbers, for all laws of layer 5.
-/
import Derived.Test.YtnfmpladdfgadaaHead
import Derived.ProofKit
import Derived.OpenShut
import Derived.ChangeOld
import Derived.Deep.Strs
import Derived.Deep.Slices
import Derived.Deep.Fields
import Derived.ChangeSame
namespace Go.Proofs.Ytnfmpladdfgadaa
open Go.ChangeShapes Go.WideShapes Go.ChangeAt Go.RowKit Go.Deep

theorem Try.own : ownKnob Try.prog.godebug = none := by kernel_rfl
theorem Try.laidOut : laidOutB Try.prog = true := by kernel_rfl
theorem Try.cells26 : Try.prog.cellsOf 26 = 4 := by kernel_rfl
theorem Try.cells23 : Try.prog.cellsOf 23 = 3 := by kernel_rfl
theorem Try.cells24 : Try.prog.cellsOf 24 = 1 := by kernel_rfl
theorem Try.cells71 : Try.prog.cellsOf 71 = 4 := by kernel_rfl
theorem Try.cells3 : Try.prog.cellsOf 3 = 1 := by kernel_rfl
theorem two {α : Type} {l : List α} (h : l.length = 2) : ∃ a b, l = [a, b] := by
  match l, h with
  | [a, b], _ => exact ⟨a, b, rfl⟩
theorem three {α : Type} {l : List α} (h : l.length = 3) : ∃ a b c, l = [a, b, c] := by
  match l, h with
  | [a, b, c], _ => exact ⟨a, b, c, rfl⟩
theorem four {α : Type} {l : List α} (h : l.length = 4) : ∃ a b c d, l = [a, b, c, d] := by
  match l, h with
  | [a, b, c, d], _ => exact ⟨a, b, c, d, rfl⟩
theorem ints_open {H : Type} {enc : TypeId × Value → H} {W : World} {fuel : Nat} {v : Value} {y : DataW H × List MemPlace} (h : DataW.trod enc Try.prog W 0 (fun _ => true) true fuel 3 [v] = some y) : ∃ n, v = .int .i64 n := by
  obtain ⟨n, hc, _⟩ := DataW.trod_int Try.underlying3 h
  exact ⟨n, by simpa using hc⟩
set_option maxRecDepth 100000 in
theorem shape_open {H : Type} {enc : TypeId × Value → H} {W : World} {fuel : Nat} {a b c : Value} {y : DataW H × List MemPlace} (h : DataW.trod enc Try.prog W 0 (fun _ => true) true fuel 23 [a, b, c] = some y) :
    ∃ x y z, a = .int .i64 x ∧ b = .int .i64 y ∧ c = .int .i64 z := by
  obtain ⟨xs, n, _, _, _, hlen, hg⟩ := DataW.trod_struct Try.underlying23 h
  have g0 := hg 0 _ rfl
  have g1 := hg 1 _ rfl
  have g2 := hg 2 _ rfl
  obtain ⟨y0, y1, y2, rfl⟩ := three hlen
  simp [Try.cells3] at g0 g1 g2
  obtain ⟨x, rfl⟩ := ints_open g0
  obtain ⟨y, rfl⟩ := ints_open g1
  obtain ⟨z, rfl⟩ := ints_open g2
  exact ⟨x, y, z, rfl, rfl, rfl⟩
set_option maxRecDepth 100000 in
theorem lay_open {H : Type} {enc : TypeId × Value → H} {W : World} {fuel : Nat} {cs : List Value} {y : DataW H × List MemPlace} (h : DataW.trod enc Try.prog W 0 (fun _ => true) true fuel 71 cs = some y) :
    ∃ l : Ly, cs = [.int .i64 l.k, .int .i64 l.o, .int .i64 l.s, .int .i64 l.t] := by
  obtain ⟨xs, n, _, _, hcl, hlen, hg⟩ := DataW.trod_struct Try.underlying71 h
  rw [Try.cells71] at hcl
  have g0 := hg 0 _ rfl
  have g1 := hg 1 _ rfl
  have g2 := hg 2 _ rfl
  have g3 := hg 3 _ rfl
  obtain ⟨y0, y1, y2, y3, rfl⟩ := four hlen
  obtain ⟨a, b, c, d, rfl⟩ := four hcl
  simp [Try.cells3] at g0 g1 g2 g3
  obtain ⟨x, rfl⟩ := ints_open g0
  obtain ⟨y, rfl⟩ := ints_open g1
  obtain ⟨z, rfl⟩ := ints_open g2
  obtain ⟨u, rfl⟩ := ints_open g3
  exact ⟨⟨x, y, z, u⟩, rfl⟩
theorem lays_open {H : Type} {enc : TypeId × Value → H} {W : World} {fuel : Nat} {v : Value} {y : DataW H × List MemPlace} (h : DataW.trod enc Try.prog W 0 (fun _ => true) true fuel 24 [v] = some y) :
    ∃ (A : Option Addr) (n cap : Nat) (ls : List Ly), v = .slice A n cap ∧ n = ls.length ∧ Rl W A ls ∧ n ≤ cap ∧ cap ≤ maxLen := by
  rcases Deep.open_slice Try.underlying24 h with ⟨hcs, _⟩ | ⟨a, len, cap, m, n, D, Pl, hcs, _, hl, hmx, hm, _, hc⟩
  · simp at hcs
    exact ⟨none, 0, 0, [], hcs, rfl, Rl.nil _ _, Nat.le_refl _, Nat.zero_le _⟩
  · simp at hcs
    simp at hm
    rw [Try.cells71] at hc
    have key : ∀ i, i < len → ∃ l : Ly, W.cells? 0 (a.add (i * 4)) 4 = some [.int .i64 l.k, .int .i64 l.o, .int .i64 l.s, .int .i64 l.t] := fun i hi => by
      obtain ⟨cs', h1, h2⟩ := hc i (by omega)
      obtain ⟨l, rfl⟩ := lay_open h2
      exact ⟨l, h1⟩
    obtain ⟨L, hL⟩ : ∃ L : Nat → Ly, ∀ i, i < len → W.cells? 0 (a.add (i * 4)) 4 = some [.int .i64 (L i).k, .int .i64 (L i).o, .int .i64 (L i).s, .int .i64 (L i).t] :=
      ⟨fun i => if hi : i < len then Classical.choose (key i hi) else Ly.z, fun i hi => by simp only [dif_pos hi]; exact Classical.choose_spec (key i hi)⟩
    refine ⟨some a, len, cap, (List.range len).map L, hcs, by simp, fun h0 => ?_, hl, hmx⟩
    simp only [List.length_map, List.length_range] at h0
    obtain ⟨b, off, spot⟩ := a
    have hat : ∀ i, i < len → ∀ j, j < 4 → W.cell? (((⟨b, off, spot⟩ : Addr).add (i * 4)).add j) = [Value.int .i64 (L i).k, .int .i64 (L i).o, .int .i64 (L i).s, .int .i64 (L i).t][j]? := fun i hi j hj => by
      obtain ⟨_, _, hh⟩ := World.cells?_some (hL i hi)
      exact hh j hj
    have hspot : spot = none := by
      have := hat 0 h0 0 (by omega)
      simpa [Addr.add] using World.cell?_spot (this : _ = some _)
    subst hspot
    have hcell : ∀ i, i < len → ∀ j, j < 4 → W.cell? ⟨b, off + i * 4 + j, none⟩ = [Value.int .i64 (L i).k, .int .i64 (L i).o, .int .i64 (L i).s, .int .i64 (L i).t][j]? := fun i hi j hj => by
      rw [← hat i hi j hj, Go.WideShapes.add_plain, Go.WideShapes.add_plain]
    refine ⟨b, off, rfl, World.block_lt_of_cell? W _ (hcell 0 h0 0 (by omega)), fun j hj => ?_⟩
    simp only [List.length_map, List.length_range] at hj
    have e : ((List.range len).map L).getD j Ly.z = L j := by simp [List.getD_eq_getElem?_getD, hj]
    rw [e]
    exact ⟨hcell j hj 0 (by omega), hcell j hj 1 (by omega), hcell j hj 2 (by omega), hcell j hj 3 (by omega)⟩
set_option maxRecDepth 100000 in
theorem net_open {H : Type} {enc : TypeId × Value → H} {W : World} {base : Nat} {v : Value} {d : DataW H} {p : List MemPlace} (hv : Value.okWide Try.prog W .any base 26 v)
    (h : DataW.Trod enc Try.prog W 0 (fun _ => true) true 26 v d p) : ∃ (c h x : Int) (A : Option Addr) (n cap : Nat) (ls : List Ly), v = .agg #[.int .i64 c, .int .i64 h, .int .i64 x, .slice A n cap] ∧ n = ls.length ∧ Rl W A ls ∧ n ≤ cap ∧ cap ≤ maxLen := by
  obtain ⟨cs, rfl, hsz⟩ := okWide_struct Try.underlying26 hv
  obtain ⟨l⟩ := cs
  have hl4 : l.length = 4 := hsz.trans Try.cells26
  obtain ⟨v0, v1, v2, v3, rfl⟩ := four hl4
  obtain ⟨fuel, hf⟩ := h
  obtain ⟨xs, n, _, _, _, hlen, hg⟩ := DataW.trod_struct Try.underlying26 hf
  have g0 := hg 0 _ rfl
  have g1 := hg 1 _ rfl
  obtain ⟨y0, y1, rfl⟩ := two hlen
  simp [Value.cells, Try.cells23, Try.cells24] at g0 g1
  obtain ⟨c, h, x, rfl, rfl, rfl⟩ := shape_open g0
  obtain ⟨A, m, cap, ls, rfl, hm, hR, hl, hx⟩ := lays_open g1
  exact ⟨c, h, x, A, m, cap, ls, rfl, hm, hR, hl, hx⟩
set_option maxRecDepth 100000 in
theorem layer_open {H : Type} {enc : TypeId × Value → H} {W : World} {base : Nat} {v : Value} {d : DataW H} {p : List MemPlace} (hv : Value.okWide Try.prog W .any base 71 v)
    (h : DataW.Trod enc Try.prog W 0 (fun _ => true) true 71 v d p) : ∃ l : Ly, v = .agg #[.int .i64 l.k, .int .i64 l.o, .int .i64 l.s, .int .i64 l.t] := by
  obtain ⟨cs, rfl, hsz⟩ := okWide_struct Try.underlying71 hv
  obtain ⟨fuel, hf⟩ := h
  obtain ⟨l, hl⟩ := lay_open hf
  obtain ⟨cl⟩ := cs
  simp [Value.cells] at hl
  subst hl
  exact ⟨l, rfl⟩
theorem byte_of_wf {n : Int} (h : (Lit.int .u8 n).wf = true) : 0 ≤ n ∧ n ≤ 255 := bounds_u8 h

end Go.Proofs.Ytnfmpladdfgadaa
